/-
  What explained of package history does, over a state that is a shelf: it tells whether there is an order.
-/
import Derived.Test.YteniopbmkooomaaSearchS
import Derived.Test.YteniopbmkooomaaExpl
namespace Go.Proofs.Yteniopbmkooomaa
open Go.RowKit Hi Go.Deep Go.Maps

theorem frm_partS {bm B : Nat} {a b : World} (f : Frm bm a b) (hB : B ≤ bm) : Below B a b :=
  ⟨f.1.os, f.1.tape, f.1.output, f.1.size, fun i hi => f.1.block i (by have := f.lt; omega) (fun e => by have := Option.some.inj e; omega)⟩

theorem build122z (s : Shelf) (w : World) : (Instr.build 122 #[(1, .agg (stS s))]).run Try.prog w = .ok (.agg (posS ((0 : Nat) : Int) s)) w := by unfold stS posS encS; kernel_rfl

set_option maxHeartbeats 1000000 in
set_option maxRecDepth 100000 in
theorem explainedS (br bt : Nat) (l : List Ev) (h12 : l.length ≤ 12) (hh : Hist l) (ways : Ways Shelf) (Inv : Nat → Shelf → Prop) (Cap : World → Prop) (hgood : ∀ T s, Inv T s → GoodS s)
    (hask : ∀ (T : Nat) (s : Shelf) (i : Nat) (w : World), Inv T s → i < l.length → T.testBit i = false → Cap w → Calls Try.prog 56 #[.agg (stS s), evV (l.getD i ev0), P1 br, P1 bt] w fun e w' => ∃ v, e = .returned v ∧ Outs 38 encS w' v (ways s (l.getD i ev0)) ∧ Below w.heap.size w w')
    (hfit : ∀ T s i, Inv T s → i < l.length → T.testBit i = false → ∀ o ∈ ways s (l.getD i ev0), Inv (T ||| 2 ^ i) o.2) (hlen : ∀ s x, (ways s x).length ≤ 2)
    (v : Value) (s : Shelf) (hs : Inv 0 s) (w : World) (hE : Evs w v l) (hC : Cap w) (hcap : ∀ a b, Cap a → Below w.heap.size a b → Cap b) :
    Calls Try.prog 32 #[v, .agg (stS s), .func (.func 56) #[] #[P1 br, P1 bt]] w fun e w' => RetB e (Lin ways s l) ∧ Below w.heap.size w w' := by
  have hmm := @run_makeMap Try.prog
  have hst : ∀ (a : Addr) (fn : Fn) (x y : Array Value) (w : World), (store a (.func fn x y)).run Try.prog w = stored Try.prog w a (.func fn x y) .plain := fun a fn x y w => run_store _ w a _ _ rfl
  have HE : Hid (Evs w v l) := hE
  obtain ⟨p, cap, rfl, hcapp, hmax, _⟩ := hE
  unfold maxLen at hmax
  have HS : Hid (∀ (bn bv bl bb ba bs bm bk : Nat) (v : Value), w.heap.size ≤ bm → ∀ (m T : Nat) (s : Shelf) (w : World) (cnt : Nat), T < 2 ^ l.length → left T l.length ≤ m → Inv T s → cnt + calls m ≤ 1000000000000000000 → Cap w →
    Env 53 (.func (.func 56) #[] #[P1 br, P1 bt]) l bn bv bl bb ba bs bm bk v w → Vain 122 (KeyS ways l) w bm cnt →
    Calls Try.prog 53 #[.agg (posS T s), P1 bn, P1 bv, P1 bl, P1 bb, P1 ba, P1 bs] w fun e w' => RetB e (GoesH ways l T s) ∧ Vain 122 (KeyS ways l) w' bm (cnt + calls m) ∧ Frm bm w w') :=
    fun bn bv bl bb ba bs bm bk v hbm => searchS br bt l h12 ways Inv Cap hgood hask hfit hlen bn bv bl bb ba bs bm bk (fun a b f c => hcap a b c (frm_partS f hbm)) v
  have HINV : Hid (Inv 0 s) := hs
  have HH : Hid (Hist l) := hh
  have HC : Hid (Cap w) := hC
  have HCAP : Hid (∀ a b, Cap a → Below w.heap.size a b → Cap b) := hcap
  have HR0 : Hid (((w.alloc (.cells #[.slice p l.length cap] 22)).alloc (.cells (stS s) 74)).rangeAt (w.heap.size + 1) 0 (encS s)) := range_new _ _ _ _ _ (by simp [stS]) (by simp)
  clear hask hfit hlen hs hh hgood hC hcap
  go_enter Try.func32, Try.ntmps32
  go_wp2_with fail
  refine (ranks_any _ l _ (HE.out.later (below_alloc (below_alloc (below_alloc (Below.refl _ _) _) _) _)) h12).mono ?_
  rintro e w1 ⟨bk, rfl, hbk, hbk2, hrow, hb1⟩
  have HB1 : Hid (Below _ _ w1) := hb1
  have HROW : Hid (w1.rowIs bk 95 l.length (fun i => U (maskOf (aheadB l i) l.length))) := hrow
  obtain ⟨hc1, hf1⟩ := bcell hb1
  have hz1 : w.heap.size + 1 + 1 < w1.heap.size := by have := hb1.size; simp at this; omega
  have HR1 : Hid (w1.rangeAt (w.heap.size + 1) 0 (encS s)) := range_later hb1 (range_old HR0.out (by simp) _) (by simp)
  clear hb1 hrow
  go_wp2_with first
    | ((with_reducible refine wp_load74 ?_ (.tmp 4) ?_ (w.heap.size + 1) 0 ?_ s ?_ ?_); rfl; rfl; rfl; exact range_later (below_alloc (below_alloc (below_alloc (below_alloc (below_alloc (Below.refl w1.heap.size _) _) _) _) _) _) HR1.out (by omega))
    | ((with_reducible refine wpG_build1 ?_ 122 1 (.tmp 19) ?_ (.agg (stS s)) (.agg (posS ((0 : Nat) : Int) s)) ?_ ?_ ?_); rfl; rfl; rfl; exact build122z s)
  refine (HS.out _ _ _ _ _ _ (w1.heap.size + 1 + 1) bk (.slice p l.length cap) (by omega) 12 0 s _ 0 (Nat.two_pow_pos _) (Nat.le_trans (left_le _ _) h12) HINV.out (by decide) ?_ ?_ ?_).mono ?_
  · exact HCAP.out _ _ HC.out (below_alloc (below_alloc (below_alloc (below_alloc (below_alloc (below_step (below_alloc (below_alloc (below_alloc (Below.refl _ _) _) _) _) HB1.out) _) _) _) _) _)
  · refine env_start 53 _ l w1 _ _ bk _ _ _ _ _ _ rfl ?_ ?_ (HE.out.later (below_step (below_alloc (below_alloc (below_alloc (Below.refl _ _) _) _) _) HB1.out)) HROW.out
    · rw [hc1 _ _ (by simp; omega)]
      exact one_old (one_old (one_new _ _ _) _) _
    · rw [hc1 _ _ (by simp)]
      have := one_new ((w.alloc (.cells #[.slice p l.length cap] 22)).alloc (.cells (stS s) 74)) (.func (.func 56) #[] #[P1 br, P1 bt]) 75
      rw [World.size_alloc, World.size_alloc] at this
      exact this
  · exact vain_start _ _ _ _ rfl _ _ _ _
  rintro e w2 ⟨⟨b, rfl, hb⟩, hV2, hF2⟩
  have HBB : Hid (b = true ↔ GoesH ways l 0 s) := hb
  have HF2 : Hid (Frm _ _ w2) := hF2
  clear hb hF2 hV2
  go_wp2_with fail
  go_ret
  refine ⟨⟨b, rfl, HBB.out.trans (goesH_iff.trans (lin_iff HH.out s).symm)⟩, ?_⟩
  exact frm_below (below_alloc (below_alloc (below_alloc (below_alloc (below_alloc (below_step (below_alloc (below_alloc (below_alloc (Below.refl _ _) _) _) _) HB1.out) _) _) _) _) _) HF2.out (by omega)

end Go.Proofs.Yteniopbmkooomaa
