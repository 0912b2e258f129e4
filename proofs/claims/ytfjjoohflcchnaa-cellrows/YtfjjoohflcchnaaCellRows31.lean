/- CellRows returns true, whatever the schedule, the values and the scripts, and leaves what it was given as it was: of the law's statement as given, with no condition of our own. Part 31 of 33. (Joined, by program, of: Tail3, Aw1, Lift29, Aw2.) -/
import Derived.Test.YtfjjoohflcchnaaCellRows06
import Derived.Test.YtfjjoohflcchnaaCellRows29
import Derived.Test.YtfjjoohflcchnaaCellRows30
import Derived.BigQuiet
import Derived.KernelRfl
set_option linter.unusedSimpArgs false
set_option linter.unusedVariables false
namespace Go.Proofs.Ytfjjoohflcchnaa
open Go Go.Lift Go.Conc Go.RowKit

noncomputable def B3 : Code := Try.f3.body.getD .skip
noncomputable def c30 : Code := seq1 B3
noncomputable def c31 : Code := seq1 (seq2 B3)
noncomputable def c32 : Code := seq1 (seq2 (seq2 B3))
noncomputable def c33 : Code := seq1 (seq2 (seq2 (seq2 B3)))
noncomputable def T3 : Code := seq2 (seq2 (seq2 (seq2 B3)))
theorem eB3 : B3 = .seq c30 (.seq c31 (.seq c32 (.seq c33 T3))) := by kernel_rfl
theorem fine32 : fineCode Try.prog true LO c32 := fineCode_ask callO extT (by kernel_rfl)
theorem fineT3 : fineCode Try.prog true LO T3 := fineCode_ask callO extT (by kernel_rfl)

def lis (u : Nat → Value) : Nat → Nat → List Value
  | _, 0 => []
  | s, n + 1 => u s :: lis u (s + 1) n
theorem lis_get (u : Nat → Value) : ∀ (n s i : Nat), (lis u s n)[i]? = if i < n then some (u (s + i)) else none
  | 0, s, i => by simp [lis]
  | n + 1, s, 0 => by simp [lis]
  | n + 1, s, i + 1 => by
    have := lis_get u n (s + 1) i
    simp only [lis, List.getElem?_cons_succ, this, Nat.add_lt_add_iff_right]
    rw [show s + 1 + i = s + (i + 1) by omega]
theorem litN {n : Nat} {a : Act} (h : a.tmps.size = n) (hd : a.defers = []) : ∃ u : Nat → Value, a = { tmps := (lis u 0 n).toArray, defers := [] } ∧ ∀ i, a.tmps.getD i undef = u i := by
  obtain ⟨⟨l⟩, ds⟩ := a
  simp only at hd h
  subst hd
  refine ⟨fun i => (Array.mk l).getD i undef, ?_, fun i => rfl⟩
  have e : l = lis (fun i => (Array.mk l).getD i undef) 0 n := by
    apply List.ext_getElem?
    intro i
    rw [lis_get]
    have hl : l.length = n := h
    by_cases hi : i < n
    · rw [if_pos hi, List.getElem?_eq_getElem (by omega)]
      simp [Array.getD, hl, hi]
    · rw [if_neg hi, List.getElem?_eq_none (by omega)]
  exact congrArg (fun x => ({ tmps := x.toArray, defers := [] } : Act)) e

/-- The frame there. -/
structure F3 (s1 : Value) (wb : Nat) (E : Int) (a : Act) : Prop where
  size : a.tmps.size = 93
  defers : a.defers = []
  t1 : a.tmps.getD 1 undef = s1
  t7 : a.tmps.getD 7 undef = .bool true
  t8 : a.tmps.getD 8 undef = Pt wb 0
  t10 : a.tmps.getD 10 undef = I E

set_option maxHeartbeats 2000000 in
set_option maxRecDepth 100000 in
/-- Play has refused. -/
theorem tail3_no {v : World} {s1 : Value} {wb : Nat} {E : Int} {a : Act} (hE : ¬ E = 0) (hA : F3 s1 wb E a) :
    T3.wp Try.prog (fun e a w' => e = .ret ∧ a.tmps.getD 6 undef = .bool true ∧ Grows v w') a v := by
  have HG : Hid (Grows v v) := ⟨⟨Nat.le_refl _, fun _ _ => rfl, rfl, rfl⟩⟩
  obtain ⟨u, rfl, hg⟩ := litN hA.size hA.defers
  have u1 := (hg 1).symm.trans hA.t1
  have u7 := (hg 7).symm.trans hA.t7
  have u8 := (hg 8).symm.trans hA.t8
  have u10 := (hg 10).symm.trans hA.t10
  clear hg hA
  show Code.wp Try.prog (seq2 (seq2 (seq2 (seq2 B3)))) _ _ _
  unfold B3 Try.f3 seq2
  simp only [Option.getD_some, lis, Nat.reduceAdd, u1, u7, u8, u10]
  clear u1 u7 u8 u10
  go_wp2_with fail
  exact HG.out

/-- A row of ints. -/
def RI (u : World) (g : Nat) (cur : List Int) : Prop := ∃ C, u.heap[g]? = some (.cells C 3 (0, 0)) ∧ ∀ (j : Nat) (x : Int), cur[j]? = some x → C[j]? = some (I x)
theorem RI.cell {u : World} {g : Nat} {cur : List Int} (h : RI u g cur) {j : Nat} {x : Int} (hj : cur[j]? = some x) : u.cell? ⟨g, j, none⟩ = some (I x) ∧ u.frozen? ⟨g, j, none⟩ = false := by
  obtain ⟨C, h1, h2⟩ := h
  exact ⟨by simp [World.cell?, h1, h2 j x hj], by simp [World.frozen?, h1]⟩
theorem RI.set {u u' : World} {g : Nat} {cur : List Int} (h : RI u g cur) {j : Nat} (y : Int) (he : u'.heap[g]? = (u.setCell ⟨g, j, none⟩ (I y)).heap[g]?) (hj : j < cur.length) : RI u' g (cur.set j y) := by
  obtain ⟨C, h1, h2⟩ := h
  refine ⟨_, by rw [he]; exact heap_setCell_same h1 (I y), fun k x hk => ?_⟩
  rw [List.getElem?_set] at hk
  rw [Array.getElem?_setIfInBounds]
  split at hk
  · rename_i e
    subst e
    cases hk
    have : j < C.size := by
      obtain ⟨x, hx⟩ : ∃ x, cur[j]? = some x := ⟨_, List.getElem?_eq_getElem hj⟩
      exact (Array.getElem?_eq_some_iff.1 (h2 j x hx)).1
    rw [if_pos rfl, if_pos this]
  · rename_i e
    rw [if_neg e]
    exact h2 k x hk
theorem RI.stay {u u' : World} {g : Nat} {cur : List Int} (h : RI u g cur) (he : u'.heap[g]? = u.heap[g]?) : RI u' g cur := by
  obtain ⟨C, h1, h2⟩ := h
  exact ⟨C, by rw [he]; exact h1, h2⟩

/-- What is known in the loop: the trace at tg, the numbers at g. -/
structure In3 (v : World) (L : List Stp) (tg g n k : Nat) (u : World) : Prop where
  now : ∃ cur, RI u g cur ∧ cur.length = n ∧ ∃ fin, replay cur (L.drop k) = some fin
  tr : ∀ j x, (flat L)[j]? = some x → u.cell? ⟨tg, j, none⟩ = some x
  old : Grows v u
theorem In3.next {v u u' : World} {L : List Stp} {tg g n k : Nat} (h : In3 v L tg g n k u) (hg : v.heap.size ≤ g) (htg : tg ≠ g) (hcur : ∃ cur, RI u' g cur ∧ cur.length = n ∧ ∃ fin, replay cur (L.drop (k + 1)) = some fin)
    (hs : u.heap.size ≤ u'.heap.size) (ho : ∀ b, b < u.heap.size → b ≠ g → u'.heap[b]? = u.heap[b]?) (h1 : u'.os = u.os) (h2 : u'.output = u.output) : In3 v L tg g n (k + 1) u' := by
  refine ⟨hcur, fun j x hj => ?_, ⟨Nat.le_trans h.old.size hs, fun b hb => ?_, h1.trans h.old.os, h2.trans h.old.output⟩⟩
  · have := h.tr j x hj
    rw [World.cell?_of_block (w := u) (w' := u') (ho tg (World.block_lt_of_cell? _ _ this) htg)]
    exact this
  · rw [ho b (by have := h.old.size; omega) (by omega), h.old.old b hb]

theorem drop_get {L : List Stp} {k : Nat} {s : Stp} (h : L[k]? = some s) : L.drop k = s :: L.drop (k + 1) := by
  have hk := (List.getElem?_eq_some_iff.1 h).1
  rw [List.drop_eq_getElem_cons hk]
  rw [List.getElem?_eq_getElem hk] at h
  rw [Option.some.inj h]

set_option maxHeartbeats 4000000 in
set_option maxRecDepth 100000 in
theorem tail3_yes {v : World} {S : TS} (h : Rep zn S v) (L : List Stp) (htr : S.tr = flat L) (hn : S.n = L.length) (hn1 : S.n ≤ 1000000) (xs : List Int) (vb vo vcap : Nat) (hx0 : 0 < xs.length) (hx1 : xs.length ≤ 17592186043904) (hv : ∀ k x, xs[k]? = some x → v.cell? ⟨vb, vo + k, none⟩ = some (I x)) (hre : ∃ fin, replay xs L = some fin) {a : Act} (hA : F3 (.slice (some ⟨vb, vo, none⟩) xs.length vcap) S.wb 0 a) :
    T3.wp Try.prog (fun e a w' => e = .ret ∧ a.tmps.getD 6 undef = .bool true ∧ Grows v w') a v := by
  have hvl : vb < v.heap.size := by
    obtain ⟨x, hx⟩ : ∃ x, xs[0]? = some x := ⟨_, List.getElem?_eq_getElem hx0⟩
    have := World.block_lt_of_cell? _ _ (hv 0 x hx)
    exact this
  have hnews : ∀ u : World, u.heap[vb]? = v.heap[vb]? → ∀ j y, (xs.map I)[j]? = some y → u.cell? ((⟨vb, vo, none⟩ : Addr).add j) = some y := fun u hu j y hj => by
    have hadd : (⟨vb, vo, none⟩ : Addr).add j = ⟨vb, vo + j, none⟩ := by unfold Addr.add; split <;> simp_all
    rw [hadd, World.cell?_of_block (w := v) (w' := u) hu]
    rw [List.getElem?_map] at hj
    cases hk : xs[j]? with
    | none => rw [hk] at hj; cases hj
    | some x =>
      rw [hk] at hj
      cases hj
      exact hv j x hk
  have H1 : Hid (∀ u ∈ xs.map I, u.oneCell' = true) := ⟨fun u hu => by
    simp only [List.mem_map] at hu
    obtain ⟨x, _, rfl⟩ := hu
    rfl⟩
  have HW : Hid (∀ u : World, u.heap[vb]? = v.heap[vb]? → ∀ j y, (xs.map I)[j]? = some y → u.cell? ((⟨vb, vo, none⟩ : Addr).add j) = some y) := ⟨hnews⟩
  have HX : Hid (0 < xs.length ∧ xs.length ≤ 17592186043904 ∧ vb < v.heap.size) := ⟨⟨hx0, hx1, hvl⟩⟩
  have HR : Hid (Rep zn S v ∧ S.tr = flat L ∧ S.n = L.length ∧ S.n ≤ 1000000) := ⟨⟨h, htr, hn, hn1⟩⟩
  have HF : Hid (∃ fin, replay xs L = some fin) := ⟨hre⟩
  obtain ⟨j0, hj, hj0, hj1, hj2⟩ := info_parts info3
  clear hnews hv h htr hn hn1 hre hx0 hx1 hvl
  obtain ⟨u, rfl, hg⟩ := litN hA.size hA.defers
  have u1 := (hg 1).symm.trans hA.t1
  have u7 := (hg 7).symm.trans hA.t7
  have u8 := (hg 8).symm.trans hA.t8
  have u10 := (hg 10).symm.trans hA.t10
  clear hg hA
  show Code.wp Try.prog (seq2 (seq2 (seq2 (seq2 B3)))) _ _ _
  unfold B3 Try.f3 seq2
  simp only [Option.getD_some, lis, Nat.reduceAdd, u1, u7, u8, u10]
  clear u1 u7 u8 u10
  have HO : Hid ((v.alloc (.cells #[] 3)).ownsRow v.heap.size 3 1 (.slice (some ⟨v.heap.size, 0, none⟩) 0 0) 0 []) := ⟨⟨rfl, .inr ⟨v.heap.size, 0, #[], rfl, Nat.le_refl _, Array.getElem?_push_size, Nat.le_refl _, Nat.zero_le _, rfl, rfl⟩⟩⟩
  go_wp2_with (first
    | (refine wpList_append_lies _ rfl (.tmp 32) (.tmp 33) 22 rfl v.heap.size 3 j0 _ 1 8 Try.underlying22 hj hj0 hj1 hj2 rfl (by decide) (.slice (some ⟨v.heap.size, 0, none⟩) 0 0) 0 [] rfl HO.out ⟨vb, vo, none⟩ xs.length vcap (xs.map I) rfl (by simp) (HW.out _ (by show (v.heap.push _)[vb]? = _; rw [Array.getElem?_push, if_neg (by have := HX.out; omega)])) H1.out HX.out.1 (by have := HX.out; unfold maxLen; omega) (by have := HX.out; omega) (by show v.heap.size ≤ (v.heap.push _).size; simp) _ rfl ?_
       intro g cpg w6 hown6 hgrow6 hat6 hlt6))
  have g6 : Grows v w6 := by
    refine ⟨Nat.le_trans (by show v.heap.size ≤ (v.heap.push _).size; simp) hgrow6.size, fun b hb => ?_, hgrow6.os, hgrow6.output⟩
    rw [hgrow6.block b (by show b < (v.heap.push _).size; simp; omega) (fun e => by have : b = v.heap.size := Option.some.inj e; omega)]
    show (v.heap.push _)[b]? = _
    rw [Array.getElem?_push, if_neg (by omega)]
  have hrow6 : RI w6 g xs ∧ v.heap.size ≤ g := by
    rcases hown6.2 with ⟨e, _⟩ | ⟨g', cap', cur, e, hb, hh, _, _, _, ht⟩
    · cases e
    · cases e
      refine ⟨⟨cur, hh, fun j x hj => ?_⟩, hb⟩
      have hjl : j < xs.length := (List.getElem?_eq_some_iff.1 hj).1
      have : (cur.toList.take ((0 + xs.length) * 1))[j]? = some (I x) := by rw [ht]; simp [hj]
      rw [List.getElem?_take_of_lt (by omega)] at this
      simpa using this
  have H9 : Hid (Calls Try.prog 20 #[Pt S.wb 0] w6 (fun e w' => ∃ r, e = .returned r ∧ ∃ p tg cap, r = .slice p L.length cap ∧ (0 < L.length → p = some ⟨tg, 0, none⟩ ∧ w6.heap.size ≤ tg) ∧ (∀ j u, (flat L)[j]? = some u → w'.cell? ⟨tg, j, none⟩ = some u) ∧ Grows w6 w')) := ⟨by
    obtain ⟨hr, h1, h2, h3⟩ := HR.out
    have := (body9A (z := zn) (S := S) (v := w6) (hr.grows g6.size g6.old) (by omega) (by rw [h1]; exact flat_one L)).calls Try.func20 rfl
    rw [h2, h1] at this
    exact this⟩
  have HG6 : Hid (Grows v w6 ∧ RI w6 g xs ∧ v.heap.size ≤ g ∧ g < w6.heap.size) := ⟨⟨g6, hrow6.1, hrow6.2, hlt6⟩⟩
  clear hown6 hgrow6 hat6 hlt6 g6 hrow6 HO
  go_wp2_with (first
    | (go_at_call 20; refine H9.out.mono ?_; rintro e w7 ⟨_, rfl, p9, tg, cap9, rfl, hp9, htr9, hgr9⟩))
  have H0 : Hid (In3 v L tg g xs.length 0 w7 ∧ v.heap.size ≤ g ∧ (0 < L.length → p9 = some ⟨tg, 0, none⟩ ∧ tg ≠ g)) := by
    obtain ⟨h1, h2, h3, h4⟩ := HG6.out
    exact ⟨⟨⟨xs, h2.stay (hgr9.old g h4), rfl, HF.out⟩, htr9, h1.trans' hgr9⟩, h3, fun h0 => ⟨(hp9 h0).1, by have := (hp9 h0).2; omega⟩⟩
  have hLl : (L.length : Int) < 9223372036854775808 := by have := HR.out; omega
  clear H9 HG6 HF HW H1 HX hp9 htr9 hgr9
  go_loopw [13] (fun i u => ∃ k : Nat, k ≤ L.length ∧ i = .int .i64 k ∧ In3 v L tg g xs.length k u) (fun i _ => L.length - (intOf i).toNat)
  case atStart => exact ⟨0, Nat.zero_le _, rfl, H0.out.1⟩
  case round =>
    obtain ⟨k, hk, rfl, hI⟩ := hrel
    have HI : Hid (In3 v L tg g xs.length k wr) := ⟨hI⟩
    by_cases hlt : k < L.length
    · obtain ⟨s, hs⟩ : ∃ s, L[k]? = some s := ⟨_, List.getElem?_eq_getElem hlt⟩
      obtain ⟨cur, hcur, hlen, fin, hrep⟩ := hI.now
      rw [drop_get hs] at hrep
      obtain ⟨nx, hnx, hrep⟩ : ∃ nx, rstep cur s = some nx ∧ replay nx (L.drop (k + 1)) = some fin := by
        simp only [replay] at hrep
        cases hr : rstep cur s with
        | none => rw [hr] at hrep; cases hrep
        | some nx => rw [hr] at hrep; exact ⟨nx, rfl, hrep⟩
      obtain ⟨f0, f1, f2, f3, f4⟩ := flat_get L k s hs
      have t0 := hI.tr _ _ f0
      have t1 := hI.tr _ _ f1
      have t2 := hI.tr _ _ f2
      have t3 := hI.tr _ _ f3
      have t4 := hI.tr _ _ f4
      have hp := (H0.out.2.2 (by omega)).1
      subst hp
      have hlt' : (k : Int) < (L.length : Int) := by omega
      have HC : Hid (RI wr g cur ∧ cur.length = xs.length ∧ replay nx (L.drop (k + 1)) = some fin ∧ L[k]? = some s) := ⟨⟨hcur, hlen, hrep, hs⟩⟩
      have hgw : g < wr.heap.size := by obtain ⟨C, h1, _⟩ := hcur; exact (Array.getElem?_eq_some_iff.1 h1).1
      clear f0 f1 f2 f3 f4 hlen hrep hs hI
      unfold rstep at hnx
      by_cases hq : s.op < 1 ∨ 5 < s.op
      · rw [if_pos hq] at hnx
        obtain rfl := Option.some.inj hnx
        have HN : Hid (∀ u, u.heap.size = wr.heap.size + 1 → (∀ b, b < wr.heap.size → u.heap[b]? = wr.heap[b]?) → u.os = wr.os → u.output = wr.output → In3 v L tg g xs.length (k + 1) u) := ⟨fun u h1 h2 h3 h4 => HI.out.next H0.out.2.1 (H0.out.2.2 (by omega)).2 ⟨_, HC.out.1.stay (h2 g hgw), HC.out.2.1, _, HC.out.2.2.1⟩ (by omega) (fun b hb _ => h2 b hb) h3 h4⟩
        clear HI hcur hnx
        rcases hq with hq | hq
        · go_wp2_with fail
          go_roundw
          case rel =>
            refine ⟨k + 1, by omega, by go_num, HN.out _ ?_ (fun b hb => ?_) rfl rfl⟩
            · show (wr.heap.push _).size = _
              simp
            · show (wr.heap.push _)[b]? = _
              rw [Array.getElem?_push, if_neg (by omega)]
          case measure => simp [intOf]; omega
        · have hq1 : ¬ s.op < 1 := by omega
          go_wp2_with fail
          go_roundw
          case rel =>
            refine ⟨k + 1, by omega, by go_num, HN.out _ ?_ (fun b hb => ?_) rfl rfl⟩
            · show (wr.heap.push _).size = _
              simp
            · show (wr.heap.push _)[b]? = _
              rw [Array.getElem?_push, if_neg (by omega)]
          case measure => simp [intOf]; omega
      · rw [if_neg hq] at hnx
        by_cases hq2 : 0 ≤ s.ce ∧ cur[s.ce.toNat]? = some s.ol ∧ (s.op = 1 → s.ne = s.ol)
        · rw [if_pos hq2] at hnx
          obtain rfl := Option.some.inj hnx
          obtain ⟨z1, z2, z3⟩ := hq2
          obtain ⟨th, ce, op, ol, ne⟩ := s
          simp only at *
          obtain ⟨j, rfl⟩ := Int.eq_ofNat_of_zero_le z1
          rw [Int.toNat_natCast] at z2
          have hq1 : decide (op < 1) = false := by simp; omega
          have hq5 : decide (5 < op) = false := by simp; omega
          have hcl : j < cur.length := (List.getElem?_eq_some_iff.1 z2).1
          obtain ⟨cc1, cc2⟩ := hcur.cell z2
          have hjx : j < xs.length := by have := HC.out.2.1; omega
          have hce : (j : Int) < (xs.length : Int) := by omega
          have cb1 : decide ((j : Int) < 0) = false := by simp
          have cb2 : decide ((xs.length : Int) ≤ (j : Int)) = false := by simp; omega
          have cb3 : (ol != ol) = false := by simp
          have cb4 : decide (xs.length ≤ j) = false := by simp; omega
          have cb5 : ¬ xs.length ≤ j := by omega
          have HN : Hid (∀ u, u.heap.size = wr.heap.size + 1 → u.heap[g]? = (wr.setCell ⟨g, j, none⟩ (I ne)).heap[g]? → (∀ b, b < wr.heap.size → b ≠ g → u.heap[b]? = wr.heap[b]?) → u.os = wr.os → u.output = wr.output → In3 v L tg g xs.length (k + 1) u) := ⟨fun u h1 h5 h2 h3 h4 => HI.out.next H0.out.2.1 (H0.out.2.2 (by omega)).2 ⟨_, HC.out.1.set ne h5 hcl, by rw [List.length_set]; exact HC.out.2.1, _, by have := HC.out.2.2.1; rw [Int.toNat_natCast] at this; exact this⟩ (by omega) h2 h3 h4⟩
          have hgN : g ≠ wr.heap.size := by omega
          have HZ : Hid (op = 1 → ne = ol) := ⟨z3⟩
          clear HI hcur hnx z2 hq HC z3 z1 hrep
          by_cases h1 : op = 1
          · have z4 := HZ.out h1
            have g1 : (op == 1) = true := by simp [h1]
            have g2 : (ne != ol) = false := by simp [z4]
            clear h1 z4
            go_wp2_with fail
            go_quiet (fail)
            go_wp2_with fail
            go_roundw
            case rel =>
              refine ⟨k + 1, by omega, by go_num, HN.out _ ?_ ?_ (fun b hb hbg => ?_) rfl rfl⟩
              · simp only [World.setCell, Array.size_modify]
                show (wr.heap.push _).size = _
                simp
              · simp only [World.setCell, Array.getElem?_modify]
                have : ∀ o : Obj, (wr.heap.push o)[g]? = wr.heap[g]? := fun o => by rw [Array.getElem?_push, if_neg hgN]
                simp only [World.drewN, World.alloc, this]
              · rw [Below.heap_setCell _ _ _ _ hbg]
                show (wr.heap.push _)[b]? = _
                rw [Array.getElem?_push, if_neg (by omega)]
            case measure => simp [intOf]; omega
          · have g1 : (op == 1) = false := by simp [h1]
            clear h1
            go_wp2_with fail
            go_quiet (fail)
            go_wp2_with fail
            go_roundw
            case rel =>
              refine ⟨k + 1, by omega, by go_num, HN.out _ ?_ ?_ (fun b hb hbg => ?_) rfl rfl⟩
              · simp only [World.setCell, Array.size_modify]
                show (wr.heap.push _).size = _
                simp
              · simp only [World.setCell, Array.getElem?_modify]
                have : ∀ o : Obj, (wr.heap.push o)[g]? = wr.heap[g]? := fun o => by rw [Array.getElem?_push, if_neg hgN]
                simp only [World.drewN, World.alloc, this]
              · rw [Below.heap_setCell _ _ _ _ hbg]
                show (wr.heap.push _)[b]? = _
                rw [Array.getElem?_push, if_neg (by omega)]
            case measure => simp [intOf]; omega
        · rw [if_neg hq2] at hnx
          cases hnx
    · have hkk : k = L.length := by omega
      subst hkk
      clear H0
      go_wp2_with fail
      exact HI.out.old
end Go.Proofs.Ytfjjoohflcchnaa

namespace Go.Proofs.Ytfjjoohflcchnaa
open Go Go.Lift Go.Conc Go.RowKit
open Go.ConcN (upd upd_same upd_ne)

theorem turns_det {nk : Nat} : ∀ {m m' : Nat} {p p1 p2 : PSt}, Turns nk m p p1 → Turns nk m' p p2 → p1 = p2
  | _, _, _, _, _, .stop h, .stop h' => rfl
  | _, _, _, _, _, .stop h, .step h' _ => by rw [h] at h'; cases h'
  | _, _, _, _, _, .step h _, .stop h' => by rw [h] at h'; cases h'
  | _, _, _, _, _, .step h t, .step h' t' => by
    rw [h] at h'
    cases h'
    exact turns_det t t'

def cl5 : Cl := ⟨5, 0, 1, 0⟩
/-- The world ahead of the hiring. -/
def awS (wb bk base : Nat) (sc cv : Value) : TS := nv { cellsS (newS wb bk base sc [1]) cv 1 with ran := true }
def awP (wb bk base : Nat) (sc cv : Value) (tv0 : Value) (tb0 gc0 : Nat) (tv1 : Value) (tb1 gc1 : Nat) (cb : Nat) (l0 : Nat → Ph) : PSt :=
  ⟨(flow 1 1 [cl5] 0 false [(0, 0)] (hiredS (flow 0 1 [cl5] 0 false [(0, 0)] (hiredS (awS wb bk base sc cv) tv0 tb0 gc0)).1 tv1 tb1 gc1)).1, [(cb, 0)], upd (upd l0 0 (flow 0 1 [cl5] 0 false [(0, 0)] (hiredS (awS wb bk base sc cv) tv0 tb0 gc0)).2) 1 (flow 1 1 [cl5] 0 false [(0, 0)] (hiredS (flow 0 1 [cl5] 0 false [(0, 0)] (hiredS (awS wb bk base sc cv) tv0 tb0 gc0)).1 tv1 tb1 gc1)).2⟩
def pt (p : PSt) : PSt := (pturn 1 p).getD p
section
variable (wb bk base : Nat) (sc cv : Value) (tv0 : Value) (tb0 gc0 : Nat) (tv1 : Value) (tb1 gc1 : Nat) (cb : Nat) (l0 : Nat → Ph)
theorem aw1 : (pturn 1 (awP wb bk base sc cv tv0 tb0 gc0 tv1 tb1 gc1 cb l0)).isSome = true := by kernel_rfl
theorem aw2 : (pturn 1 (pt (awP wb bk base sc cv tv0 tb0 gc0 tv1 tb1 gc1 cb l0))).isSome = true := by kernel_rfl
theorem aw3 : (pturn 1 (pt (pt (awP wb bk base sc cv tv0 tb0 gc0 tv1 tb1 gc1 cb l0)))).isNone = true := by kernel_rfl
theorem aw4 : (pt (pt (awP wb bk base sc cv tv0 tb0 gc0 tv1 tb1 gc1 cb l0))).S.tr = [I 0, I (-1), I 9, I 0, I 0, I 1, I (-1), I 9, I 0, I 0, I 1, I 0, I 5, I 0, I 1, I 1, I (-1), I 10, I 0, I 0, I 0, I 0, I 5, I 1, I 2, I 0, I (-1), I 10, I 0, I 0] := by kernel_rfl
theorem aw5 : (pt (pt (awP wb bk base sc cv tv0 tb0 gc0 tv1 tb1 gc1 cb l0))).S.n = 6 := by kernel_rfl
theorem aw6 : ((pt (pt (awP wb bk base sc cv tv0 tb0 gc0 tv1 tb1 gc1 cb l0))).l 0).ans = [(0, 2)] ∧ ((pt (pt (awP wb bk base sc cv tv0 tb0 gc0 tv1 tb1 gc1 cb l0))).l 1).ans = [(0, 1)] := ⟨by kernel_rfl, by kernel_rfl⟩
theorem aw_turns : Turns 1 2 (awP wb bk base sc cv tv0 tb0 gc0 tv1 tb1 gc1 cb l0) (pt (pt (awP wb bk base sc cv tv0 tb0 gc0 tv1 tb1 gc1 cb l0))) := by
  have h1 := aw1 wb bk base sc cv tv0 tb0 gc0 tv1 tb1 gc1 cb l0
  have h2 := aw2 wb bk base sc cv tv0 tb0 gc0 tv1 tb1 gc1 cb l0
  have h3 := aw3 wb bk base sc cv tv0 tb0 gc0 tv1 tb1 gc1 cb l0
  have e : ∀ p : PSt, (pturn 1 p).isSome = true → pturn 1 p = some (pt p) := fun p h => by
    unfold pt
    cases hp : pturn 1 p with
    | none => rw [hp] at h; cases h
    | some x => rfl
  refine .step (e _ h1) (.step (e _ h2) (.stop ?_))
  cases hp : pturn 1 (pt (pt (awP wb bk base sc cv tv0 tb0 gc0 tv1 tb1 gc1 cb l0))) with
  | none => rfl
  | some x => rw [hp] at h3; cases h3
end
end Go.Proofs.Ytfjjoohflcchnaa

namespace Go.Lift
open Go.Conc
section
variable {P : Program} {wr : Bool}
theorem calm_listForIn_mem {α σ : Type} {f : α → σ → Sem (ForInStep σ)} : ∀ (l : List α) (s : σ), (∀ a ∈ l, ∀ s, calm P wr (f a s)) → calm P wr (forIn l s f)
  | [], s, _ => by rw [List.forIn_nil]; exact calm_pure _
  | a :: l, s, h => by
    rw [List.forIn_cons]
    refine calm_bind (h a (List.mem_cons_self ..) s) fun x => ?_
    cases x with
    | done b => exact calm_pure _
    | yield b => exact calm_listForIn_mem l b (fun a' ha => h a' (List.mem_cons_of_mem _ ha))
theorem calm_arrayForIn_mem {α σ : Type} {f : α → σ → Sem (ForInStep σ)} (l : Array α) (s : σ) (h : ∀ a ∈ l, ∀ s, calm P wr (f a s)) : calm P wr (forIn l s f) := by
  rw [← Array.forIn_toList]
  exact calm_listForIn_mem _ _ (fun a ha => h a (by simpa using ha))
theorem calm_equalIn_flat {t : TypeId} (ht : flatT P t = true) (d : Nat) (x y : Value) : calm P wr (Op.equalIn (d + 1) t x y) := by
  unfold Op.equalIn
  refine calm_und fun d hd => ?_
  unfold flatT at ht
  rw [hd] at ht
  split
  all_goals first | (exfalso; revert ht; simp; done) | repeat' (first | with_reducible (first | exact calm_viewAt _ | exact calm_numberAt _ | exact calm_asNumber _ _ | exact calm_behindNumber _ | exact calm_noView _ | exact calm_byteOf _ | exact calm_partAt _ _ _ | exact calm_fieldPlace _ _ | exact calm_typeStr _ | exact calm_alloc _ | exact calm_box _ _ | exact calm_build _ _ | exact calm_buildSlice _ _ _ | exact calm_loadAt _ _ | exact calm_fieldAt _ _ _ | exact calm_indexAt _ _ _ | exact calm_sliceBound _ _ _ | exact calm_sliceBounds _ _ _ _ _ _ | exact calm_slice _ _ _ _ _ | exact calm_sliceAt _ _ _ _ _ | exact calm_makeChan _ _ | exact calm_makeSlice _ _ _ | exact calm_field _ _ _ | exact calm_index _ _ _ | exact calm_extract _ _ | exact calm_len _ _ _ | exact calm_cap _ _ _ | exact calm_lenOf _ | exact calm_firstCells _ _ _ | exact calm_holdsCells _ _ | exact calm_intArith _ _ _ _ | exact calm_intDiv _ _ _ _ | exact calm_intBits _ _ _ _ | exact calm_intCmp _ _ _ | exact calm_shift _ _ _ _ _ | exact calm_stringOp _ _ _ | exact calm_floatArith _ _ _ _ | exact calm_floatCmp _ _ _ _ | exact calm_twoPlaces _ _ | exact calm_addrSub _ _ _ | exact calm_addrCmp _ _ _ | exact calm_addrMod _ _ _ | exact calm_unsafeAdd _ _ _ | exact calm_movedNumber _ _ _ | exact calm_movedPointer _ _ _ | exact calm_unary _ _ | exact calm_floatToFloat _ _ _ | exact calm_pure _ | exact calm_stuck _ | exact calm_unsupported _ | exact calm_goPanic _ | exact calm_runtimePanic _ | exact calm_boundsPanic _ _ _ _ | exact calm_program | exact calm_shape _ | exact calm_getObj _ | exact calm_newObj _ | exact calm_choose _ | exact calm_load _ _ | exact calm_askRoom _ | exact calm_typeInfo _ | exact calm_underlying _ | exact calm_zeroValue _ | exact calm_sizeOf _ | exact calm_isAgg _ | exact calm_elemOf _ | exact calm_newRow _ _ | exact calm_newVar _ _ | exact calm_asIntOf _ | exact calm_asInt _ | exact calm_asBool _ | exact calm_asAgg _ | exact calm_asAddr _ | exact calm_sureAddr _ | exact calm_loadCells _ _ | exact calm_loadVar _ _ | exact calm_part _ _ _ | exact calm_markRoom | exact calm_markExtern _ | (refine calm_arrayForIn (fun _ _ => ?_) _ _) | (refine calm_rangeForIn (fun _ _ => ?_) _ _) | apply calm_map | refine calm_bind ?_ (fun _ => ?_)) | split | dsimp only)
theorem calm_equal_struct {t : TypeId} {fields : Array Field} (ht : P.underlying t = some (.struct fields)) (hf : ∀ f ∈ fields, flatT P f.type = true) (x y : Value) : calm P wr (Op.equal t x y) := by
  show calm P wr (Op.equalIn (9998 + 1 + 1) t x y)
  unfold Op.equalIn
  refine calm_und fun d hd => ?_
  rw [ht] at hd
  cases hd
  cases x <;> try exact calm_stuck _
  cases y <;> try exact calm_stuck _
  rename_i xs ys
  simp only
  refine calm_bind calm_program fun p => ?_
  split
  · refine calm_bind (calm_unsupported _) fun _ => ?_
    refine calm_bind (calm_arrayForIn_mem _ _ fun f hff s => ?_) fun s => ?_
    · split
      · refine calm_bind (calm_part _ _ _) fun a => calm_bind (calm_part _ _ _) fun b => calm_bind (calm_equalIn_flat (hf f hff) 9998 a b) fun c => ?_
        split <;> exact calm_pure _
      · exact calm_pure _
    · split <;> exact calm_pure _
  · skip
    refine calm_bind (calm_arrayForIn_mem _ _ fun f hff s => ?_) fun s => ?_
    · split
      · refine calm_bind (calm_part _ _ _) fun a => calm_bind (calm_part _ _ _) fun b => calm_bind (calm_equalIn_flat (hf f hff) 9998 a b) fun c => ?_
        split <;> exact calm_pure _
      · exact calm_pure _
    · split <;> exact calm_pure _
end
end Go.Lift

namespace Go.Proofs.Ytfjjoohflcchnaa
open Go Go.Lift Go.Conc Go.RowKit

noncomputable def B6 : Code := Try.f17.body.getD .skip
noncomputable def b60 : Code := seq1 B6
noncomputable def b61 : Code := seq1 (seq2 B6)
noncomputable def b62 : Code := seq1 (seq2 (seq2 B6))
noncomputable def b63 : Code := seq1 (seq2 (seq2 (seq2 B6)))
noncomputable def b64 : Code := seq1 (seq2 (seq2 (seq2 (seq2 B6))))
noncomputable def b65 : Code := seq1 (seq2 (seq2 (seq2 (seq2 (seq2 B6)))))
theorem eB6 : B6 = .seq b60 (.seq b61 (.seq b62 (.seq b63 (.seq b64 (.seq b65 .ret))))) := by kernel_rfl
theorem fine60 : fineCode Try.prog true LO b60 := fineCode_ask callO extT (by kernel_rfl)
theorem fine61 : fineCode Try.prog true LO b61 := fineCode_ask callO extT (by kernel_rfl)
theorem fine62 : fineCode Try.prog true LO b62 := fineCode_ask callO extT (by kernel_rfl)
theorem fine64 : fineCode Try.prog true LO b64 := fineCode_ask callO extT (by kernel_rfl)
noncomputable def ops65 : Array Oper := opsOf b65
theorem size65 : ops65.size = 52 := by kernel_rfl
theorem all65 : ((List.range 52).all fun i => i == 49 || ((ops65[i]?).map fun o => plainOp Try.prog true o.op || askCall plainO plainXs o.op).getD false) = true := by kernel_rfl
theorem op65 : (ops65[49]?).map (fun o => o.op) = some (.binOp .eql 34 (.tmp 68) (.tmp 69) 34) := by kernel_rfl
theorem und34 : ∃ fields, Try.prog.underlying 34 = some (.struct fields) ∧ ∀ f ∈ fields, flatT Try.prog f.type = true := by
  have h : (match Try.prog.underlying 34 with | some (.struct fs) => fs.all (fun f => flatT Try.prog f.type) | _ => false) = true := by kernel_rfl
  split at h
  · rename_i fs e
    exact ⟨fs, e, fun f hf => (Array.all_eq_true_iff_forall_mem.1 h) f hf⟩
  · cases h
set_option maxRecDepth 100000 in
theorem fineEq {o : Oper} (h : o.op = .binOp .eql 34 (.tmp 68) (.tmp 69) 34) : fineOp Try.prog true LO o := by
  obtain ⟨fields, hu, hf⟩ := und34
  obtain ⟨dst, op, type, pos, after, guard⟩ := o
  simp only at h
  subst h
  refine fun a => ?_
  have hq : calm Try.prog true (Op.equal 34 (a.eval (.tmp 68)) (a.eval (.tmp 69))) := calm_equal_struct hu hf _ _
  have he : execOp a.eval { dst := dst, op := .binOp .eql 34 (.tmp 68) (.tmp 69) 34, type := type, pos := pos, after := after, guard := guard } = (do eqGuard .eql 34 (.tmp 68) (.tmp 69) (a.eval (.tmp 68)) (a.eval (.tmp 69)); binOp .eql 34 (a.eval (.tmp 68)) (a.eval (.tmp 69)) : Sem Value).bind fun v => Sem.pure (Next.value v) := rfl
  rw [he]
  exact ⟨calm_sbind (calm_bind (calm_eqGuard _ _ _ _ _ _) fun _ => calm_binOp _ _ _ _ (fun _ => hq)) fun _ => trivial, fun w x w' h => .inl (val_out h)⟩
theorem fine65 : fineCode Try.prog true LO b65 := by
  have e : b65 = .region 5 ops65 false := by kernel_rfl
  rw [e]
  intro o ho
  obtain ⟨i, hi⟩ := Array.mem_iff_getElem?.1 ho
  have hlt : i < 52 := by have := (Array.getElem?_eq_some_iff.1 hi).1; rw [size65] at this; exact this
  by_cases h9 : i = 49
  · subst h9
    have := op65
    rw [hi] at this
    exact fineEq (Option.some.inj this)
  · have := List.all_eq_true.1 all65 i (List.mem_range.2 hlt)
    rw [hi] at this
    simp only [Option.map_some, Option.getD_some, Bool.or_eq_true_iff, beq_iff_eq, h9, false_or] at this
    exact fineOp_ask callO extT (Bool.or_eq_true_iff.2 this)

set_option maxHeartbeats 2000000 in
set_option maxRecDepth 100000 in
theorem b60_wp {v : World} :
    b60.wp Try.prog (fun e a w' => e = .normal ∧ a = { tmps := #[.bool false] ++ Array.replicate 71 undef, defers := [] } ∧ w'.heap = v.heap ∧ w'.os = v.os ∧ w'.output = v.output)
      { tmps := Array.replicate 72 undef, defers := [] } v := by
  show Code.wp Try.prog (seq1 (Try.f17.body.getD .skip)) _ _ _
  unfold Try.f17 seq1
  simp only [Option.getD_some, Array.replicate_succ, Array.replicate_zero, List.push_toArray, List.append_toArray, List.nil_append, List.cons_append]
  go_wp2_with fail
  try exact ⟨rfl, rfl, rfl⟩

set_option maxHeartbeats 2000000 in
set_option maxRecDepth 100000 in
theorem b61_wp {v : World} :
    b61.wp Try.prog (fun e a w' => e = .normal ∧ ∃ wb bk sc, a = { tmps := #[.bool false, Pt wb 0, undef, undef, undef, undef, .slice (some ⟨v.heap.size, 0, none⟩) 1 1, Pt wb 0] ++ Array.replicate 64 undef, defers := [] } ∧ IsNew (v.alloc (.cells #[I 1] 3)) [1] wb bk sc w')
      { tmps := #[.bool false] ++ Array.replicate 71 undef, defers := [] } v := by
  have h7 := (body7 (v := v.alloc (.cells #[I 1] 3)) v.heap.size 0 1 [1] (by decide) (by decide) (fun k x hk => by
    match k, hk with
    | 0, hk =>
      cases hk
      unfold World.cell?
      rw [show (v.alloc (.cells #[I 1] 3)).heap[v.heap.size]? = some (.cells #[I 1] 3) from Array.getElem?_push_size]
      rfl
    | k + 1, hk => simp at hk)).calls Try.func18 rfl
  have H7 : Hid (Calls Try.prog 18 #[.slice (some ⟨v.heap.size, 0, none⟩) 1 1] (v.alloc (.cells #[I 1] 3)) _) := ⟨h7⟩
  clear h7
  show Code.wp Try.prog (seq1 (seq2 (Try.f17.body.getD .skip))) _ _ _
  unfold Try.f17 seq1 seq2
  simp only [Option.getD_some, Array.replicate_succ, Array.replicate_zero, List.push_toArray, List.append_toArray, List.nil_append, List.cons_append]
  go_wp2_with (first
    | (go_at_call 18; refine H7.out.mono ?_; rintro e w1 ⟨_, rfl, wb, bk, sc, rfl, hnew⟩))
  exact ⟨bk, sc, hnew⟩

set_option maxHeartbeats 2000000 in
set_option maxRecDepth 100000 in
theorem b62_wp {v : World} (wb sb0 : Nat) :
    b62.wp Try.prog (fun e a w' => e = .normal ∧ a = { tmps := #[.bool false, Pt wb 0, .slice (some ⟨v.heap.size, 0, none⟩) 1 1, undef, undef, undef, .slice (some ⟨sb0, 0, none⟩) 1 1, Pt wb 0, .agg #[I 5, I 0, I 1, I 0], .slice (some ⟨v.heap.size, 0, none⟩) 1 1] ++ Array.replicate 62 undef, defers := [] } ∧ w'.heap = v.heap.push (.cells #[I 5, I 0, I 1, I 0] 39) ∧ w'.os = v.os ∧ w'.output = v.output)
      { tmps := #[.bool false, Pt wb 0, undef, undef, undef, undef, .slice (some ⟨sb0, 0, none⟩) 1 1, Pt wb 0] ++ Array.replicate 64 undef, defers := [] } v := by
  show Code.wp Try.prog (seq1 (seq2 (seq2 (Try.f17.body.getD .skip)))) _ _ _
  unfold Try.f17 seq1 seq2
  simp only [Option.getD_some, Array.replicate_succ, Array.replicate_zero, List.push_toArray, List.append_toArray, List.nil_append, List.cons_append]
  go_wp2_with fail
  try exact ⟨rfl, rfl, rfl⟩

set_option maxHeartbeats 2000000 in
set_option maxRecDepth 100000 in
theorem b64_wp {v : World} {S : TS} (h : Rep zn S v) (h0 : 0 < S.n) (hn : S.n * 40 ≤ 140737488355328) (h1 : ∀ u ∈ S.tr, u.oneCell' = true) (u2 u3 u4 u6 u7 u8 u9 u10 u11 u12 u13 u14 u15 u16 u17 u18 : Value) :
    b64.wp Try.prog (fun e a w' => e = .normal ∧ ∃ g cap, a = { tmps := #[.bool false, Pt S.wb 0, u2, u3, u4, .slice (some ⟨g, 0, none⟩) S.n cap, u6, u7, u8, u9, u10, u11, u12, u13, u14, u15, u16, u17, u18, Pt S.wb 0, .slice (some ⟨g, 0, none⟩) S.n cap] ++ Array.replicate 51 undef, defers := [] } ∧ w'.ownsRow v.heap.size 34 5 (.slice (some ⟨g, 0, none⟩) S.n cap) S.n S.tr ∧ Grows v w')
      { tmps := #[.bool false, Pt S.wb 0, u2, u3, u4, undef, u6, u7, u8, u9, u10, u11, u12, u13, u14, u15, u16, u17, u18] ++ Array.replicate 53 undef, defers := [] } v := by
  have H9 : Hid _ := ⟨(body9 h h0 hn h1).calls Try.func20 rfl⟩
  clear h h0 hn h1
  show Code.wp Try.prog (seq1 (seq2 (seq2 (seq2 (seq2 (Try.f17.body.getD .skip)))))) _ _ _
  unfold Try.f17 seq1 seq2
  simp only [Option.getD_some, Array.replicate_succ, Array.replicate_zero, List.push_toArray, List.append_toArray, List.nil_append, List.cons_append]
  go_wp2_with (first
    | (go_at_call 20; refine H9.out.mono ?_; rintro e w1 ⟨_, rfl, g, cap, rfl, hown, hgr, -⟩))
  exact ⟨g, cap, ⟨rfl, rfl⟩, hown⟩

set_option maxHeartbeats 4000000 in
set_option maxRecDepth 100000 in
theorem b65_wp {v : World} (M A0 A1 g cap : Nat) (m0 : v.cell? ⟨M, 0, none⟩ = some (.slice (some ⟨A0, 0, none⟩) 1 1)) (m1 : v.cell? ⟨M, 1, none⟩ = some (.slice (some ⟨A1, 0, none⟩) 1 1)) (x0 : v.cell? ⟨A0, 1, none⟩ = some (I 2)) (x1 : v.cell? ⟨A1, 1, none⟩ = some (I 1))
    (g0 : v.cell? ⟨g, 10, none⟩ = some (I 1)) (g1 : v.cell? ⟨g, 11, none⟩ = some (I 0)) (g2 : v.cell? ⟨g, 12, none⟩ = some (I 5)) (g3 : v.cell? ⟨g, 13, none⟩ = some (I 0)) (g4 : v.cell? ⟨g, 14, none⟩ = some (I 1)) (u1 u2 u6 u7 u8 u9 u10 u11 u12 u13 u14 u15 u16 u17 u18 u19 u20 : Value) :
    b65.wp Try.prog (fun e a w' => e = .normal ∧ a.tmps.getD 0 undef = .bool true ∧ w'.heap = v.heap ∧ w'.os = v.os ∧ w'.output = v.output)
      { tmps := #[.bool false, u1, u2, .slice (some ⟨M, 0, none⟩) 2 2, I 0, .slice (some ⟨g, 0, none⟩) 6 cap, u6, u7, u8, u9, u10, u11, u12, u13, u14, u15, u16, u17, u18, u19, u20] ++ Array.replicate 51 undef, defers := [] } v := by
  show Code.wp Try.prog (seq1 (seq2 (seq2 (seq2 (seq2 (seq2 (Try.f17.body.getD .skip))))))) _ _ _
  unfold Try.f17 seq1 seq2
  simp only [Option.getD_some, Array.replicate_succ, Array.replicate_zero, List.push_toArray, List.append_toArray, List.nil_append, List.cons_append]
  go_wp2_with fail
end Go.Proofs.Ytfjjoohflcchnaa
