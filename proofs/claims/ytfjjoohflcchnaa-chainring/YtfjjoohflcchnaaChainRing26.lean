/- ChainRing: of a ring the last who writes down is told, under every schedule. Part 26 of 37. (Joined, by program, of: ChE, GWp, GObj, GRK, GL12, La4P, La4Q.) -/
import Derived.Test.YtfjjoohflcchnaaChainRing20
import Derived.Test.YtfjjoohflcchnaaChainRing24
import Derived.Test.YtfjjoohflcchnaaChainRing25
import Derived.Deep.LoopGhost
import Derived.Deep.OwnRows
import Derived.Deep.RegionWith
import Derived.Deep.RegionHeld3
import Derived.BigQuiet
set_option linter.unusedSimpArgs false
set_option linter.unusedVariables false
namespace Go.Proofs.Ytfjjoohflcchnaa.Gen
open Go Go.Lift Go.Conc Go.RowKit
open Go.ConcN (upd upd_same upd_ne)

def levH (n : Nat) (q : Q) : Nat := if q.1 = 0 then n + 1 else n - (q.2.getD 1 0).toNat
def clH (q : Q) : Nat := if q.1 = 0 then (q.2.getD 0 0).toNat else (q.2.getD 2 0).toNat
theorem seatH {n fr x k : Nat} (L : Nat) (hL : k < n → n - k < L) (hk : n + 1 ≥ L) : seatOk (n + 1) (levH n) clH (fun _ => False) (nxH n fr x k) ∧ nlev (levH n) (nxH n fr x k) < L ∨ L ≤ 0 := by
  by_cases h0 : L ≤ 0
  · exact .inr h0
  left
  refine nxH_cases n fr x k (fun nx => seatOk (n + 1) (levH n) clH (fun _ => False) nx ∧ nlev (levH n) nx < L) (fun _ _ => ⟨trivial, by show 0 < L; omega⟩) (fun h1 _ => ?_) (fun _ => ⟨trivial, by show 0 < L; omega⟩)
  have e : levH n (1, [(fr : Int), (k : Int), (x : Int)]) = n - k := by simp [levH]
  have e2 : clH (1, [(fr : Int), (k : Int), (x : Int)]) = x := by simp [clH]
  refine ⟨⟨by rw [e]; omega, by rw [e]; omega, e2.symm⟩, ?_⟩
  show levH n (1, [(fr : Int), (k : Int), (x : Int)]) < L
  rw [e]
  exact hL h1
def metH (n : Nat) : Met (mcH n) where
  L := n + 1
  hL := by omega
  lev := levH n
  ws _ _ := 0
  cl := clH
  wq _ := False
  ws_le _ _ := by omega
  start i c := by
    unfold mcH
    simp only
    split
    · refine ⟨?_, ?_, ?_⟩
      · simp [levH]
      · simp [levH]
      · simp [clH]
    · trivial
  turn q x h1 h2 := by
    by_cases e : q.1 = 0
    · have ht : ((mcH n).turn q x).2.2 = nxH n (q.2.getD 0 0).toNat (q.2.getD 1 0).toNat 0 := by
        show (if q.1 = 0 then _ else _ : (Int × Int) × Int × Nx).2.2 = _
        rw [if_pos e]
      rw [ht]
      have hl : levH n q = n + 1 := by unfold levH; rw [if_pos e]
      rw [hl]
      rcases seatH (fr := (q.2.getD 0 0).toNat) (x := (q.2.getD 1 0).toNat) (k := 0) (n + 1) (fun _ => by omega) (Nat.le_refl _) with ⟨a, b⟩ | h
      · exact ⟨a, .inl b⟩
      · omega
    · have ht : ((mcH n).turn q x).2.2 = if x = 0 then .ans 0 0 else nxH n (q.2.getD 0 0).toNat (x - 1).toNat ((q.2.getD 1 0).toNat + 1) := by
        show (if q.1 = 0 then _ else _ : (Int × Int) × Int × Nx).2.2 = _
        rw [if_neg e]
      rw [ht]
      have hl : levH n q = n - (q.2.getD 1 0).toNat := by unfold levH; rw [if_neg e]
      rw [hl] at h1 ⊢
      by_cases hx : x = 0
      · rw [if_pos hx]
        exact ⟨trivial, .inl (by show 0 < _; omega)⟩
      · rw [if_neg hx]
        rcases seatH (fr := (q.2.getD 0 0).toNat) (x := (x - 1).toNat) (k := (q.2.getD 1 0).toNat + 1) (n := n) (n - (q.2.getD 1 0).toNat) (fun _ => by omega) (by omega) with ⟨a, b⟩ | h
        · exact ⟨a, .inl b⟩
        · omega
  woke q _ _ h := h.elim

theorem ends_far {mc : Mc} (M : Met mc) {ss : List (Scr mc)} {S S1 : TS} {l0 l1 : Nat → Ph} {K : List (Nat × Int)} (h : Hires mc 0 ss S l0 S1 l1) (h0 : S.thr = []) (h8 : ss.length ≤ 8) (hl : lens ss ≤ 512) (hL : M.L ≤ 101) (hn : S.n = 0) :
    ∃ m p', m ≤ 2000000 ∧ Turns mc m ⟨S1, K, l1⟩ p' ∧ p'.S.n * 40 ≤ 140737488355328 := by
  obtain ⟨a1, a2, a3, a4⟩ := hires_gd M h (by rw [h0]; rfl) (by omega) (fun i t ht => by rw [h0] at ht; cases ht)
  have g : Gd M ⟨S1, K, l1⟩ := ⟨by show S1.thr.length ≤ 8; omega, a2⟩
  have hm := mu_le M ⟨S1, K, l1⟩ g.len
  rw [h0] at a4
  simp only [List.length_nil, List.range_zero, List.map_nil, List.sum_nil] at a4
  have h5 : M.L * lens ss ≤ 101 * 512 := Nat.mul_le_mul hL hl
  have hm2 : mu M ⟨S1, K, l1⟩ ≤ 2000000 := by
    refine Nat.le_trans hm ?_
    show 25 + 32 * ((List.range S1.thr.length).map fun i => tot M (l1 i)).sum ≤ 2000000
    omega
  obtain ⟨m, p', k1, k2, k3⟩ := turns_end M 2000000 ⟨S1, K, l1⟩ hm2 g
  refine ⟨m, p', k1, k2, ?_⟩
  have k3 : p'.S.n ≤ S1.n + mu M ⟨S1, K, l1⟩ := k3
  omega
theorem small_far {mc : Mc} (M : Met mc) {m : Nat} {ss : List (Scr mc)} {S S1 : TS} {l0 l1 : Nat → Ph} {K : List (Nat × Int)} {p' : PSt} (h : Hires mc 0 ss S l0 S1 l1) (hT : Turns mc m ⟨S1, K, l1⟩ p') (h0 : S.thr = []) (h8 : ss.length ≤ 8) (hl : lens ss ≤ 512) (hL : M.L ≤ 101) (hn : S.n = 0) : p'.S.n ≤ 4000000 := by
  obtain ⟨a1, a2, a3, a4⟩ := hires_gd M h (by rw [h0]; rfl) (by omega) (fun i t ht => by rw [h0] at ht; cases ht)
  have g : Gd M ⟨S1, K, l1⟩ := ⟨by show S1.thr.length ≤ 8; omega, a2⟩
  have hm := mu_le M ⟨S1, K, l1⟩ g.len
  rw [h0] at a4
  simp only [List.length_nil, List.range_zero, List.map_nil, List.sum_nil] at a4
  have h5 : M.L * lens ss ≤ 101 * 512 := Nat.mul_le_mul hL hl
  have hm2 : mu M ⟨S1, K, l1⟩ ≤ 2000000 := by
    refine Nat.le_trans hm ?_
    show 25 + 32 * ((List.range S1.thr.length).map fun i => tot M (l1 i)).sum ≤ 2000000
    omega
  have := (turns_gd M hT g).2
  have k3 : p'.S.n + mu M p' ≤ S1.n + mu M ⟨S1, K, l1⟩ := this
  omega

/-- A chain's Play, told as the laws count. -/
theorem chain_run {n : Nat} (h0 : 0 < n) {E : Nat → Nat → Prop} {ss : List (Scr (mcH n))} {cl : Nat → List Cl} {N : Nat} {S S1 : TS} {l0 l1 : Nat → Ph} {K : List (Nat × Int)} {m : Nat} {p' : PSt}
    (hn : ss.length = N) (hn8 : N ≤ 8) (hE : ∀ i, i < N → ∀ c ∈ cl i, c.po = 1 → E (keyH n c.ca) (keyH n c.cb)) (hss : ss.map (·.calls) = (List.range' 0 N).map cl) (ha : ∀ x ∈ ss, x.ans = List.replicate x.calls.length (0, 0))
    (ht : S.thr = []) (htr : S.tr = []) (hSn : S.n = 0) (hsk : S.stk = false) (hK : K.map (·.2) = List.replicate n 0)
    (hH : Hires (mcH n) 0 ss S l0 S1 l1) (hT : Turns (mcH n) m ⟨S1, K, l1⟩ p') :
    ∃ v, p'.S.tr = flat v.L ∧ p'.S.n = v.L.length ∧ p'.S.stk = false ∧ v.l = p'.l ∧ HI N n E cl v ∧ (∀ R, Rg N n R cl → RI N n R cl v) ∧ ∀ i, i < N → ∃ a, v.l i = .done a := by
  let v0 : Vw := ⟨List.replicate n 0, false, S.chg, fun i => (thrI S i).se, l0, []⟩
  have hs0 : Seen ⟨S, K, l0⟩ v0 := ⟨hK.symm, hsk.symm, rfl, fun i => rfl, rfl, htr, hSn, fun i t h => by rw [ht] at h; cases h⟩
  obtain ⟨v1, hi1, hs1⟩ := hires_hi (K := K) hH v0 (by rw [ht]; rfl) ha hs0
  rw [hss] at hi1
  have hcz : ∀ (j : Nat) (x : Int), v0.K[j]? = some x → x = 0 ∨ ∃ b : Nat, x = (b : Int) + 1 ∧ b < n ∧ E j b := fun j x hx => by
    have hx : (List.replicate n (0 : Int))[j]? = some x := hx
    rw [List.getElem?_replicate] at hx
    split at hx
    · cases hx; exact .inl rfl
    · cases hx
  have hc0 : HI 0 n E cl v0 := ⟨by simp [v0], hcz, rfl, fun i hi => by omega, fun i hi => by omega, fun i hi => by omega, fun i hi => by omega, trivial⟩
  have hci := hi_chain hi1 (by simp) hc0
  rw [List.length_map, List.length_range', Nat.zero_add] at hci
  have hr1 : ∀ R, Rg N n R cl → RI N n R cl v1 := fun R _ => ri_zero (hi_K hi1)
  obtain ⟨a1, a2, a3, a4⟩ := hires_gd (metH n) hH (by rw [ht]; rfl) (by omega) (fun i t h => by rw [ht] at h; cases h)
  have g : Gd (metH n) ⟨S1, K, l1⟩ := ⟨by show S1.thr.length ≤ 8; omega, a2⟩
  obtain ⟨v', hI, hs', _, hd⟩ := turns_mv (metH n) (N := N) (Inv := fun v => HI N n E cl v ∧ ∀ R, Rg N n R cl → RI N n R cl v) (fun v v1 hv hm => ⟨chain_mv h0 hE hv.1 hm, fun R hR => ring_mv hR hv.1 (hv.2 R hR) hm⟩) hT v1 (by show S1.thr.length = N; omega) g hs1 ⟨hci, hr1⟩
  exact ⟨v', hs'.tr, hs'.n, by rw [← hs'.stk]; exact hI.1.stk, hs'.l, hI.1, hI.2, hd⟩
end Go.Proofs.Ytfjjoohflcchnaa.Gen

namespace Go.Proofs.Ytfjjoohflcchnaa.Gen
open Go Go.Lift Go.Conc Go.RowKit

section
variable {P : Program} {Q : Exit → Act → World → Prop} {a : Act} {w : World} {x y c : Code} {R : Act → World → Prop}
/-- A piece, and what follows it. -/
theorem wp_then (h : x.wp P (fun e a' w' => e = .normal ∧ R a' w') a w) (k : ∀ a' w', R a' w' → y.wp P Q a' w') : (Code.seq x y).wp P Q a w :=
  wp_seq (wp_mono h (fun e a w h => by obtain ⟨rfl, hr⟩ := h; exact k a w hr))
/-- A piece, the last one. -/
theorem wp_last (h : x.wp P (fun e a' w' => e = .normal ∧ R a' w') a w) (k : ∀ a' w', R a' w' → Q .normal a' w') : x.wp P Q a w :=
  wp_mono h (fun e a w h => by obtain ⟨rfl, hr⟩ := h; exact k a w hr)
/-- A loop that is left by its head's test. -/
theorem wp_while {id : Nat} {hd body : Code} {t : Nat} (I : Nat → Act → World → Prop) (n : Nat) (h0 : I n a w)
    (head : ∀ n a w, I n a w → ∃ (J : Act → World → Prop), hd.wp P (fun e a' w' => e = .normal ∧ J a' w') a w ∧
      ∀ a' w', J a' w' → (a'.eval (.tmp t) = .bool false ∧ Q .normal a' w') ∨ (a'.eval (.tmp t) = .bool true ∧ body.wp P (Exit.then (fun a'' w'' => ∃ n', n' < n ∧ I n' a'' w'') (Exit.inBlock id Q)) a' w')) :
    (Code.block id (.loop (.seq (.seq hd (.cond (.tmp t) .skip (.exit id))) body))).wp P Q a w := by
  refine wp_block (wp_loop_ghost I n h0 fun n a w hI => ?_)
  obtain ⟨J, h1, h2⟩ := head n a w hI
  refine wp_seq (wp_then h1 fun a' w' hJ => ?_)
  rcases h2 a' w' hJ with ⟨e, hq⟩ | ⟨e, hb⟩
  · refine wp_cond_false e (wp_exit ?_)
    show if id = id then Q .normal a' w' else _
    rw [if_pos rfl]
    exact hq
  · exact wp_cond_true e (wp_skip hb)
end
end Go.Proofs.Ytfjjoohflcchnaa.Gen

namespace Go.Proofs.Ytfjjoohflcchnaa.Gen
open Go Go.Lift Go.Conc Go.RowKit

def padd (pk : Nat → Option Obj) (b : Nat) (o : Obj) : Nat → Option Obj := fun x => if x = b then some o else pk x
theorem padd_at (pk : Nat → Option Obj) (b : Nat) (o : Obj) : padd pk b o b = some o := by unfold padd; rw [if_pos rfl]
theorem padd_ne {pk : Nat → Option Obj} {b x : Nat} {o : Obj} (h : x ≠ b) : padd pk b o x = pk x := by unfold padd; rw [if_neg h]
theorem cell_of {v : World} {b j : Nat} {c : Array Value} {t : TypeId} {f : Nat × Nat} {x : Value} (h : v.heap[b]? = some (.cells c t f)) (hj : c[j]? = some x) : v.cell? ⟨b, j, none⟩ = some x := by
  unfold World.cell?
  rw [h]
  exact hj

section
variable {v u u' : World} {S S1 : TS} {K : List (Nat × Int)} {xs : List Int} {pk : Nat → Option Obj}
theorem Objs.start (hm : Mem zn S [] v) (hch : S.chg = []) : Objs v S [] (fun _ => none) S [] v :=
  ⟨Cel.refl hm, rfl, ⟨S.cv, by unfold cellsS; rw [List.length_nil, List.replicate_zero, ← hch]⟩, fun b o h => (by cases h), fun b h => absurd rfl h, fun b o h => (by cases h)⟩
/-- Some of what was there may be read, too. -/
theorem Objs.startG (hm : Mem zn S [] v) (hch : S.chg = []) (hpk : Has pk v) (hf : ∀ b, pk b ≠ none → ¬ Own S [] b ∧ b ≠ S.bk) (hr : ∀ b o, pk b = some o → ∃ c e f, o = .cells c e f) : Objs v S [] pk S [] v :=
  ⟨Cel.refl hm, rfl, ⟨S.cv, by unfold cellsS; rw [List.length_nil, List.replicate_zero, ← hch]⟩, hpk, fun b h => ⟨.inr (hf b h).2, (hf b h).1⟩, hr⟩
theorem Objs.push (h : Objs v S xs pk S1 K u) {c : Array Value} {t : TypeId} (e : u'.heap = u.heap.push (.cells c t)) (e1 : u'.os = u.os) (e2 : u'.output = u.output) : Objs v S xs (padd pk u.heap.size (.cells c t)) S1 K u' := by
  refine ⟨h.cel.push e e1 e2, h.vals, h.st, fun b o hb => ?_, fun b hb => ?_, fun b o hb => ?_⟩
  · by_cases hbu : b = u.heap.size
    · subst hbu
      rw [padd_at] at hb
      cases hb
      rw [e]
      exact Array.getElem?_push_size
    · rw [padd_ne hbu] at hb
      have := h.has b o hb
      have hl := (Array.getElem?_eq_some_iff.1 this).1
      rw [e, Array.getElem?_push, if_neg (by omega)]
      exact this
  · by_cases hbu : b = u.heap.size
    · subst hbu
      exact ⟨.inl h.cel.fr.size, fun ho => by have := h.cel.mem.lt ho; omega⟩
    · rw [padd_ne hbu] at hb
      exact h.new b hb
  · by_cases hbu : b = u.heap.size
    · subst hbu
      rw [padd_at] at hb
      cases hb
      exact ⟨_, _, _, rfl⟩
    · rw [padd_ne hbu] at hb
      exact h.row b o hb
theorem Objs.more (h : Objs v S xs pk S1 K u) {S2 : TS} {K2 : List (Nat × Int)} {ys : List Int} (c : Cel zn S1 K u S2 K2 u') (hv : K2.map (·.2) = ys) (hs : ∃ cv, S2 = cellsS S cv ys.length) : Objs v S ys pk S2 K2 u' := by
  have hl : ∀ b o, pk b = some o → b < u.heap.size := fun b o hb => (Array.getElem?_eq_some_iff.1 (h.has b o hb)).1
  refine ⟨h.cel.trans c, hv, hs, fun b o hb => ?_, fun b hb => ?_, h.row⟩
  · rw [c.fr.block b (hl b o hb) (h.new b (by rw [hb]; simp)).2]
    exact h.has b o hb
  · obtain ⟨o, ho⟩ := Option.ne_none_iff_exists'.1 hb
    refine ⟨(h.new b hb).1, fun ho' => ?_⟩
    rcases c.own b ho' with e | e
    · exact (h.new b hb).2 e
    · have := hl b o ho; omega
/-- cell.New. -/
theorem Objs.cell (h : Objs v S xs pk S1 K u) (x : Int) (hl : xs.length ≤ 1000000) : Calls Try.prog 21 #[Pt S.wb 0, I x] u (fun e w' => ∃ cb, e = .returned (Pt cb 0) ∧ u.heap.size ≤ w'.heap.size ∧ ∃ S2, Objs v S (xs ++ [x]) pk S2 (K ++ [(cb, x)]) w') := by
  obtain ⟨cv, rfl⟩ := h.st
  have h10 := (body10 h.cel.mem x (by show (List.replicate xs.length (0 : Int)).length ≤ _; simp; omega)).calls Try.func21 rfl
  refine h10.mono ?_
  rintro e w' ⟨r, rfl, cb, cv', rfl, hm1, hf1, hn1⟩
  refine ⟨cb, rfl, hf1.size, _, h.more ⟨hm1, hf1, hn1⟩ (by rw [List.map_append, h.vals]; rfl) ⟨cv', ?_⟩⟩
  unfold celledS cellsS
  simp only [List.length_append, List.length_cons, List.length_nil, Nat.zero_add, List.replicate_succ']
end
end Go.Proofs.Ytfjjoohflcchnaa.Gen

namespace Go.Proofs.Ytfjjoohflcchnaa.Gen
open Go Go.Lift Go.Conc Go.RowKit

/-- The trace lies there. -/
def TrL (g : Nat) (L : List Stp) (v : World) : Prop := ∀ (k : Nat) (s : Stp), L[k]? = some s → v.cell? ⟨g, k * 5, none⟩ = some (I s.th) ∧ v.cell? ⟨g, k * 5 + 1, none⟩ = some (I s.ce) ∧ v.cell? ⟨g, k * 5 + 2, none⟩ = some (I s.op) ∧ v.cell? ⟨g, k * 5 + 3, none⟩ = some (I s.ol) ∧ v.cell? ⟨g, k * 5 + 4, none⟩ = some (I s.ne)
theorem grow_same {v v' : World} (e : v'.heap = v.heap) (e1 : v'.os = v.os) (e2 : v'.output = v.output) : Grows v v' := ⟨by rw [e]; exact Nat.le_refl _, fun b _ => by rw [e], e1, e2⟩
theorem grow_push {v v' : World} {x : Obj} (e : v'.heap = v.heap.push x) (e1 : v'.os = v.os) (e2 : v'.output = v.output) : Grows v v' := ⟨by rw [e]; simp, fun b hb => by rw [e, Array.getElem?_push, if_neg (by omega)], e1, e2⟩
theorem grow_trans {v v' v2 : World} (a : Grows v v') (b : Grows v' v2) : Grows v v2 := ⟨Nat.le_trans a.size b.size, fun q hq => by rw [b.old q (Nat.lt_of_lt_of_le hq a.size), a.old q hq], b.os.trans a.os, b.output.trans a.output⟩

/-- Where the answers and the scripts lie. -/
structure RK (n M b o : Nat) (A ln cp rb ro : Nat → Nat) (pc : Nat → Option Addr) (cl : Nat → List Cl) (l : Nat → Ph) (v : World) : Prop where
  ar : ∀ k, k < n → v.cell? ⟨M, k, none⟩ = some (.slice (some ⟨A k, 0, none⟩) (ln k) (ln k))
  an : ∀ k, k < n → ∀ (j : Nat) (q : Int × Int), (l k).ans[j]? = some q → v.cell? ⟨A k, j * 2, none⟩ = some (I q.1) ∧ v.cell? ⟨A k, j * 2 + 1, none⟩ = some (I q.2)
  sr : ∀ k, k < n → v.cell? ⟨b, o + k, none⟩ = some (.slice (pc k) (ln k) (cp k))
  pq : ∀ k, k < n → 0 < ln k → pc k = some ⟨rb k, ro k, none⟩
  sa : ∀ k, k < n → ∀ (j : Nat) (c : Cl), (cl k)[j]? = some c → v.cell? ⟨rb k, ro k + j * 4, none⟩ = some (I c.po) ∧ v.cell? ⟨rb k, ro k + j * 4 + 1, none⟩ = some (I c.ca)
theorem RK.go {n M b o : Nat} {A ln cp rb ro : Nat → Nat} {pc : Nat → Option Addr} {cl : Nat → List Cl} {l : Nat → Ph} {v v' : World} (h : RK n M b o A ln cp rb ro pc cl l v) (g : ∀ q, q < v.heap.size → v'.heap[q]? = v.heap[q]?) : RK n M b o A ln cp rb ro pc cl l v' := by
  have hc : ∀ (a : Addr) (x : Value), v.cell? a = some x → v'.cell? a = some x := fun a x ha => by rw [World.cell?_of_block (w := v) (w' := v') (g _ (World.block_lt_of_cell? _ _ ha))]; exact ha
  exact ⟨fun k hk => hc _ _ (h.ar k hk), fun k hk j q hq => ⟨hc _ _ (h.an k hk j q hq).1, hc _ _ (h.an k hk j q hq).2⟩, fun k hk => hc _ _ (h.sr k hk), h.pq, fun k hk j c hj => ⟨hc _ _ (h.sa k hk j c hj).1, hc _ _ (h.sa k hk j c hj).2⟩⟩
theorem TrL.go {g : Nat} {L : List Stp} {v v' : World} (h : TrL g L v) (q : ∀ b, b < v.heap.size → v'.heap[b]? = v.heap[b]?) : TrL g L v' := fun k s hs => by
  have hc : ∀ (a : Addr) (x : Value), v.cell? a = some x → v'.cell? a = some x := fun a x ha => by rw [World.cell?_of_block (w := v) (w' := v') (q _ (World.block_lt_of_cell? _ _ ha))]; exact ha
  obtain ⟨h1, h2, h3, h4, h5⟩ := h k s hs
  exact ⟨hc _ _ h1, hc _ _ h2, hc _ _ h3, hc _ _ h4, hc _ _ h5⟩
end Go.Proofs.Ytfjjoohflcchnaa.Gen

namespace Go.Proofs.Ytfjjoohflcchnaa.Gen
open Go Go.Lift Go.Conc Go.RowKit

theorem Fl.hd {n k : Nat} {c : Bool} {l : List (Nat × Value)} {a : Act} (h : Fl n ((k, .bool c) :: l) a) (hc : c = true) : a.eval (.tmp k) = .bool true := by subst hc; exact h.2.2 (k, .bool true) (.head _)
theorem Fl.hf {n k : Nat} {c : Bool} {l : List (Nat × Value)} {a : Act} (h : Fl n ((k, .bool c) :: l) a) (hc : c = false) : a.eval (.tmp k) = .bool false := by subst hc; exact h.2.2 (k, .bool false) (.head _)
theorem Fl.tl {n : Nat} {x : Nat × Value} {l : List (Nat × Value)} {a : Act} (h : Fl n (x :: l) a) : Fl n l a := ⟨h.1, h.2.1, fun p hp => h.2.2 p (.tail _ hp)⟩

/-- What lies below B stays. -/
structure Kq (B : Nat) (w w' : World) : Prop where
  os : w'.os = w.os
  out : w'.output = w.output
  size : w.heap.size ≤ w'.heap.size
  old : ∀ k, k < B → w'.heap[k]? = w.heap[k]?
section
variable {B : Nat} {u v w : World}
theorem Kq.refl (B : Nat) (w : World) : Kq B w w := ⟨rfl, rfl, Nat.le_refl _, fun _ _ => rfl⟩
theorem Kq.trans (h : Kq B u v) (k : Kq B v w) : Kq B u w := ⟨k.os.trans h.os, k.out.trans h.out, Nat.le_trans h.size k.size, fun i hi => (k.old i hi).trans (h.old i hi)⟩
theorem Kq.same (e1 : w.heap = v.heap) (e2 : w.os = v.os) (e3 : w.output = v.output) : Kq B v w := ⟨e2, e3, by rw [e1]; exact Nat.le_refl _, fun i _ => by rw [e1]⟩
theorem Kq.alloc (o : Obj) (h : B ≤ v.heap.size) : Kq B v (v.alloc o) := ⟨rfl, rfl, by show _ ≤ (v.heap.push o).size; simp, fun i hi => by show (v.heap.push o)[i]? = _; rw [Array.getElem?_push, if_neg (by omega)]⟩
theorem Kq.set {b o : Nat} (x : Value) (h : B ≤ b) : Kq B v (v.setCell ⟨b, o, none⟩ x) := ⟨rfl, rfl, by simp [World.setCell], fun i hi => Below.heap_setCell _ _ _ _ (by show i ≠ b; omega)⟩
theorem Kq.cell (k : Kq B u v) {a : Addr} {x : Value} (h : u.cell? a = some x) (hb : a.block < B) : v.cell? a = some x := by rw [World.cell?_of_block (w := u) (w' := v) (k.old _ hb)]; exact h
theorem Kq.grows (k : Kq B u v) (h : u.heap.size ≤ B) : Grows u v := ⟨k.size, fun b hb => k.old b (by omega), k.os, k.out⟩
theorem Kq.le {B' : Nat} (k : Kq B u v) (h : B' ≤ B) : Kq B' u v := ⟨k.os, k.out, k.size, fun i hi => k.old i (by omega)⟩
end

/-- Where the scripts lie. -/
structure SL (N b o : Nat) (ln cp rb ro : Nat → Nat) (pc : Nat → Option Addr) (cl : Nat → List Cl) (v : World) : Prop where
  len : ∀ k, k < N → (cl k).length = ln k
  sr : ∀ k, k < N → v.cell? ⟨b, o + k, none⟩ = some (.slice (pc k) (ln k) (cp k))
  pq : ∀ k, k < N → 0 < ln k → pc k = some ⟨rb k, ro k, none⟩
  sa : ∀ k, k < N → ∀ (j : Nat) (c : Cl), (cl k)[j]? = some c → v.cell? ⟨rb k, ro k + j * 4, none⟩ = some (I c.po) ∧ v.cell? ⟨rb k, ro k + j * 4 + 1, none⟩ = some (I c.ca) ∧ v.cell? ⟨rb k, ro k + j * 4 + 2, none⟩ = some (I c.cb) ∧ v.cell? ⟨rb k, ro k + j * 4 + 3, none⟩ = some (I c.cc)
/-- Where the answers lie. -/
structure AL (N M : Nat) (A ln : Nat → Nat) (l : Nat → Ph) (v : World) : Prop where
  ar : ∀ k, k < N → v.cell? ⟨M, k, none⟩ = some (.slice (some ⟨A k, 0, none⟩) (ln k) (ln k))
  al : ∀ k, k < N → (l k).ans.length = ln k
  an : ∀ k, k < N → ∀ (j : Nat) (q : Int × Int), (l k).ans[j]? = some q → v.cell? ⟨A k, j * 2, none⟩ = some (I q.1) ∧ v.cell? ⟨A k, j * 2 + 1, none⟩ = some (I q.2)
theorem kq_all {v u : World} (k : Kq v.heap.size v u) (a : Addr) (x : Value) (h : v.cell? a = some x) : u.cell? a = some x := k.cell h (World.block_lt_of_cell? _ _ h)
theorem SL.go {N b o : Nat} {ln cp rb ro : Nat → Nat} {pc : Nat → Option Addr} {cl : Nat → List Cl} {v u : World} (h : SL N b o ln cp rb ro pc cl v) (k : Kq v.heap.size v u) : SL N b o ln cp rb ro pc cl u := by
  have hc := kq_all k
  exact ⟨h.len, fun i hi => hc _ _ (h.sr i hi), h.pq, fun i hi j c hj => ⟨hc _ _ (h.sa i hi j c hj).1, hc _ _ (h.sa i hi j c hj).2.1, hc _ _ (h.sa i hi j c hj).2.2.1, hc _ _ (h.sa i hi j c hj).2.2.2⟩⟩
theorem AL.go {N M : Nat} {A ln : Nat → Nat} {l : Nat → Ph} {v u : World} (h : AL N M A ln l v) (k : Kq v.heap.size v u) : AL N M A ln l u := by
  have hc := kq_all k
  exact ⟨fun i hi => hc _ _ (h.ar i hi), h.al, fun i hi j q hj => ⟨hc _ _ (h.an i hi j q hj).1, hc _ _ (h.an i hi j q hj).2⟩⟩

theorem info3b : (Try.prog.info? 3).map (fun i => (i.zero, i.size, i.bytes)) = some (some (I 0), 1, 8) := by kernel_rfl
theorem make_3 (n : Nat) (hn : n ≤ 1048576) (w : World) :
    (Instr.makeSlice 22 (.int .i64 (n : Int)) (.int .i64 (n : Int))).run Try.prog w = .ok (.slice (some ⟨w.heap.size, 0, none⟩) n n) (w.alloc (.cells (madeCells #[I 0] n) 3)) := by
  cases hq : Try.prog.info? 3 with
  | none => have := info3b; rw [hq] at this; cases this
  | some i =>
    have hi := info3b
    rw [hq] at hi
    simp only [Option.map_some, Option.some.injEq, Prod.mk.injEq] at hi
    obtain ⟨hz, hs, hb⟩ := hi
    have := run_make (P := Try.prog) w 22 3 i _ Try.underlying22 hq hz .i64 .i64 (n : Int) (n : Int) (by omega) (by omega) (by rw [hb]; omega) (by omega)
    rw [hs] at this
    rw [this]
    simp [Value.cells]

/-- A table of n rows of n bools, in the blocks from G on. -/
structure Tb (n G : Nat) (T : Nat → Nat → Bool) (u : World) : Prop where
  out : u.rowIs G 79 n (fun i => .slice (some ⟨G + 1 + i, 0, none⟩) n n)
  row : ∀ i, i < n → u.rowIs (G + 1 + i) 4 n (fun k => .bool (T i k))
section
variable {n G B : Nat} {T T' : Nat → Nat → Bool} {u u' : World}
theorem Tb.same (h : Tb n G T u) (e : u'.heap = u.heap) : Tb n G T u' := ⟨h.out.of_block (by rw [e]), fun i hi => (h.row i hi).of_block (by rw [e])⟩
theorem Tb.go (h : Tb n G T u) (k : Kq (G + 1 + n) u u') : Tb n G T u' := ⟨h.out.of_block (k.old G (by omega)), fun i hi => (h.row i hi).of_block (k.old _ (by omega))⟩
theorem Tb.congr (h : Tb n G T u) (e : ∀ i k, i < n → k < n → T i k = T' i k) : Tb n G T' u := ⟨h.out, fun i hi => (h.row i hi).congr fun k hk => by rw [e i k hi hk]⟩
theorem Tb.set (h : Tb n G T u) {i : Nat} (hi : i < n) (k : Nat) (c : Bool) (hw : u'.heap = (u.setCell ⟨G + 1 + i, k, none⟩ (.bool c)).heap) : Tb n G (fun a b => if a = i ∧ b = k then c else T a b) u' := by
  have e : ∀ j : Nat, u'.heap[j]? = (u.setCell ⟨G + 1 + i, k, none⟩ (.bool c)).heap[j]? := fun j => by rw [hw]
  refine ⟨h.out.of_block ((e _).trans (Below.heap_setCell _ _ _ _ (by show G ≠ G + 1 + i; omega))), fun j hj => ?_⟩
  by_cases hji : j = i
  · subst hji
    refine (((h.row j hj).set k (.bool c)).of_block (e _)).congr fun b hb => ?_
    by_cases hbk : b = k
    · simp [hbk]
    · simp [hbk]
  · refine ((h.row j hj).of_block ((e _).trans (Below.heap_setCell _ _ _ _ (by show G + 1 + j ≠ G + 1 + i; omega)))).congr fun b hb => ?_
    rw [if_neg (fun e => hji e.1)]
end

/-! ### Ways -/
theorem Rc.trans {E : Nat → Nat → Prop} {a b c : Nat} (h : Rc E a b) (k : Rc E b c) : Rc E a c := by
  induction k with
  | one e => exact .step h e
  | step _ e ih => exact .step ih e
/-- A way whose inner keys are below m. -/
inductive Pth (E : Nat → Nat → Prop) (m : Nat) : Nat → Nat → Prop
  | one {a b : Nat} : E a b → Pth E m a b
  | via {a j b : Nat} : j < m → Pth E m a j → Pth E m j b → Pth E m a b
theorem Pth.split {E : Nat → Nat → Prop} {m a b : Nat} (h : Pth E (m + 1) a b) : Pth E m a b ∨ (Pth E m a m ∧ Pth E m m b) := by
  induction h with
  | one h => exact .inl (.one h)
  | @via a j b hj _ _ ih1 ih2 =>
    by_cases e : j = m
    · subst e
      refine .inr ⟨?_, ?_⟩
      · rcases ih1 with h | h
        · exact h
        · exact h.1
      · rcases ih2 with h | h
        · exact h
        · exact h.2
    · have hj' : j < m := by omega
      rcases ih1 with h1 | h1
      · rcases ih2 with h2 | h2
        · exact .inl (.via hj' h1 h2)
        · exact .inr ⟨.via hj' h1 h2.1, h2.2⟩
      · rcases ih2 with h2 | h2
        · exact .inr ⟨h1.1, .via hj' h1.2 h2⟩
        · exact .inr ⟨h1.1, h2.2⟩
theorem Pth.zero {E : Nat → Nat → Prop} {a b : Nat} (h : Pth E 0 a b) : E a b := by
  cases h with
  | one h => exact h
  | via h _ _ => omega
/-- The table holds all ways whose inner keys are below m. -/
def Wr (E : Nat → Nat → Prop) (n m : Nat) (T : Nat → Nat → Bool) : Prop := ∀ i k, i < n → k < n → Pth E m i k → T i k = true
/-- While keys go through m: as far as row i, and as far as k in it. -/
structure Wm (n m : Nat) (T : Nat → Nat → Bool) (i k : Nat) (T' : Nat → Nat → Bool) : Prop where
  more : ∀ i k, i < n → k < n → T i k = true → T' i k = true
  rows : ∀ a b, a < i → b < n → T a m = true → T m b = true → T' a b = true
  here : ∀ b, b < k → T i m = true → T m b = true → T' i b = true
theorem Wm.start (n m : Nat) (T : Nat → Nat → Bool) : Wm n m T 0 0 T := ⟨fun _ _ _ _ h => h, fun a b h => by omega, fun b h => by omega⟩
theorem Wm.set {n m i k : Nat} {T T' : Nat → Nat → Bool} (hm : m < n) (hi : i < n) (hk : k < n) (h : Wm n m T i k T') : Wm n m T i (k + 1) (fun a b => if a = i ∧ b = k then (T' i k || (T' i m && T' m k)) else T' a b) where
  more a b ha hb hab := by
    by_cases e : a = i ∧ b = k
    · obtain ⟨rfl, rfl⟩ := e; rw [if_pos ⟨rfl, rfl⟩, h.more _ _ ha hb hab]; rfl
    · rw [if_neg e]; exact h.more _ _ ha hb hab
  rows a b ha hb h1 h2 := by
    rw [if_neg (by omega)]; exact h.rows a b ha hb h1 h2
  here b hb h1 h2 := by
    by_cases e : b = k
    · subst e; rw [if_pos ⟨rfl, rfl⟩, h.more _ _ hm hk h2, h.more _ _ hi hm h1]; simp
    · rw [if_neg (by omega)]; exact h.here b (by omega) h1 h2
theorem Wm.next {n m i : Nat} {T T' : Nat → Nat → Bool} (h : Wm n m T i n T') : Wm n m T (i + 1) 0 T' where
  more := h.more
  rows a b ha hb h1 h2 := by
    by_cases e : a = i
    · subst e; exact h.here b hb h1 h2
    · exact h.rows a b (by omega) hb h1 h2
  here b hb := by omega
theorem Wm.done {E : Nat → Nat → Prop} {n m : Nat} {T T' : Nat → Nat → Bool} (hm : m < n) (h : Wr E n m T) (h' : Wm n m T n 0 T') : Wr E n (m + 1) T' := fun i k hi hk hp => by
  rcases hp.split with hp | ⟨h1, h2⟩
  · exact h'.more _ _ hi hk (h _ _ hi hk hp)
  · exact h'.rows _ _ hi hk (h _ _ hi hm h1) (h _ _ hm hk h2)
end Go.Proofs.Ytfjjoohflcchnaa.Gen

namespace Go.Proofs.Ytfjjoohflcchnaa.Gen
open Go Go.Lift Go.Conc Go.RowKit

noncomputable def C4 : Code := Try.f16.body.getD .skip
noncomputable def q4_0 : Code := (seq1 C4)
noncomputable def q4_1 : Code := (seq1 (seq2 C4))
noncomputable def q4_2 : Code := (seq1 (seq2 (seq2 C4)))
noncomputable def q4_3 : Code := (seq1 (seq2 (seq2 (seq2 C4))))
noncomputable def q4_4 : Code := (seq1 (seq1 (seq2 (seq2 (seq2 (seq2 C4))))))
noncomputable def q4_5 : Code := (seq1 (condA (seq2 (seq1 (seq2 (seq2 (seq2 (seq2 C4))))))))
noncomputable def q4_6 : Code := (seq1 (seq1 (seq2 (seq2 (seq2 (seq2 (seq2 C4)))))))
noncomputable def q4_7 : Code := (seq1 (condA (seq2 (seq1 (seq2 (seq2 (seq2 (seq2 (seq2 C4)))))))))
noncomputable def q4_8 : Code := (seq1 (seq2 (seq2 (seq2 (seq2 (seq2 (seq2 C4)))))))
noncomputable def q4_9 : Code := (seq1 (seq1 (seq2 (seq2 (seq2 (seq2 (seq2 (seq2 (seq2 C4)))))))))
noncomputable def q4_10 : Code := (seq1 (seq1 (loopC (blockC (seq2 (seq1 (seq2 (seq2 (seq2 (seq2 (seq2 (seq2 (seq2 C4)))))))))))))
noncomputable def q4_12 : Code := (blockC (seq1 (seq2 (loopC (blockC (seq2 (seq1 (seq2 (seq2 (seq2 (seq2 (seq2 (seq2 (seq2 C4))))))))))))))
noncomputable def q4_11 : Code := (seq2 (seq2 (loopC (blockC (seq2 (seq1 (seq2 (seq2 (seq2 (seq2 (seq2 (seq2 (seq2 C4)))))))))))))
noncomputable def q4_13 : Code := (seq1 (seq1 (seq2 (seq2 (seq2 (seq2 (seq2 (seq2 (seq2 (seq2 C4))))))))))
noncomputable def q4_14 : Code := (seq1 (seq1 (loopC (blockC (seq2 (seq1 (seq2 (seq2 (seq2 (seq2 (seq2 (seq2 (seq2 (seq2 C4))))))))))))))
noncomputable def q4_16 : Code := (seq1 (blockC (seq1 (seq2 (loopC (blockC (seq2 (seq1 (seq2 (seq2 (seq2 (seq2 (seq2 (seq2 (seq2 (seq2 C4))))))))))))))))
noncomputable def q4_17 : Code := (seq1 (seq1 (loopC (blockC (seq2 (blockC (seq1 (seq2 (loopC (blockC (seq2 (seq1 (seq2 (seq2 (seq2 (seq2 (seq2 (seq2 (seq2 (seq2 C4))))))))))))))))))))
noncomputable def q4_19 : Code := (seq1 (blockC (seq1 (seq2 (loopC (blockC (seq2 (blockC (seq1 (seq2 (loopC (blockC (seq2 (seq1 (seq2 (seq2 (seq2 (seq2 (seq2 (seq2 (seq2 (seq2 C4))))))))))))))))))))))
noncomputable def q4_20 : Code := (seq1 (seq2 (blockC (seq1 (seq2 (loopC (blockC (seq2 (blockC (seq1 (seq2 (loopC (blockC (seq2 (seq1 (seq2 (seq2 (seq2 (seq2 (seq2 (seq2 (seq2 (seq2 C4)))))))))))))))))))))))
noncomputable def q4_21 : Code := (condA (seq2 (seq2 (blockC (seq1 (seq2 (loopC (blockC (seq2 (blockC (seq1 (seq2 (loopC (blockC (seq2 (seq1 (seq2 (seq2 (seq2 (seq2 (seq2 (seq2 (seq2 (seq2 C4))))))))))))))))))))))))
noncomputable def q4_18 : Code := (seq2 (seq2 (loopC (blockC (seq2 (blockC (seq1 (seq2 (loopC (blockC (seq2 (seq1 (seq2 (seq2 (seq2 (seq2 (seq2 (seq2 (seq2 (seq2 C4))))))))))))))))))))
noncomputable def q4_15 : Code := (seq2 (seq2 (loopC (blockC (seq2 (seq1 (seq2 (seq2 (seq2 (seq2 (seq2 (seq2 (seq2 (seq2 C4))))))))))))))
noncomputable def q4_22 : Code := (seq1 (seq1 (seq2 (seq2 (seq2 (seq2 (seq2 (seq2 (seq2 (seq2 (seq2 C4)))))))))))
noncomputable def q4_23 : Code := (seq1 (seq1 (loopC (blockC (seq2 (seq1 (seq2 (seq2 (seq2 (seq2 (seq2 (seq2 (seq2 (seq2 (seq2 C4)))))))))))))))
noncomputable def q4_25 : Code := (seq1 (blockC (seq1 (seq2 (loopC (blockC (seq2 (seq1 (seq2 (seq2 (seq2 (seq2 (seq2 (seq2 (seq2 (seq2 (seq2 C4)))))))))))))))))
noncomputable def q4_26 : Code := (seq1 (seq1 (loopC (blockC (seq2 (blockC (seq1 (seq2 (loopC (blockC (seq2 (seq1 (seq2 (seq2 (seq2 (seq2 (seq2 (seq2 (seq2 (seq2 (seq2 C4)))))))))))))))))))))
noncomputable def q4_28 : Code := (seq1 (blockC (seq1 (seq2 (loopC (blockC (seq2 (blockC (seq1 (seq2 (loopC (blockC (seq2 (seq1 (seq2 (seq2 (seq2 (seq2 (seq2 (seq2 (seq2 (seq2 (seq2 C4)))))))))))))))))))))))
noncomputable def q4_29 : Code := (seq1 (seq1 (loopC (blockC (seq2 (blockC (seq1 (seq2 (loopC (blockC (seq2 (blockC (seq1 (seq2 (loopC (blockC (seq2 (seq1 (seq2 (seq2 (seq2 (seq2 (seq2 (seq2 (seq2 (seq2 (seq2 C4)))))))))))))))))))))))))))
noncomputable def q4_31 : Code := (blockC (seq1 (seq2 (loopC (blockC (seq2 (blockC (seq1 (seq2 (loopC (blockC (seq2 (blockC (seq1 (seq2 (loopC (blockC (seq2 (seq1 (seq2 (seq2 (seq2 (seq2 (seq2 (seq2 (seq2 (seq2 (seq2 C4))))))))))))))))))))))))))))
noncomputable def q4_30 : Code := (seq2 (seq2 (loopC (blockC (seq2 (blockC (seq1 (seq2 (loopC (blockC (seq2 (blockC (seq1 (seq2 (loopC (blockC (seq2 (seq1 (seq2 (seq2 (seq2 (seq2 (seq2 (seq2 (seq2 (seq2 (seq2 C4)))))))))))))))))))))))))))
noncomputable def q4_27 : Code := (seq2 (seq2 (loopC (blockC (seq2 (blockC (seq1 (seq2 (loopC (blockC (seq2 (seq1 (seq2 (seq2 (seq2 (seq2 (seq2 (seq2 (seq2 (seq2 (seq2 C4)))))))))))))))))))))
noncomputable def q4_24 : Code := (seq2 (seq2 (loopC (blockC (seq2 (seq1 (seq2 (seq2 (seq2 (seq2 (seq2 (seq2 (seq2 (seq2 (seq2 C4)))))))))))))))
noncomputable def q4_32 : Code := (seq1 (seq1 (seq2 (seq2 (seq2 (seq2 (seq2 (seq2 (seq2 (seq2 (seq2 (seq2 C4))))))))))))
noncomputable def q4_33 : Code := (seq1 (seq1 (loopC (blockC (seq2 (seq1 (seq2 (seq2 (seq2 (seq2 (seq2 (seq2 (seq2 (seq2 (seq2 (seq2 C4))))))))))))))))
noncomputable def q4_35 : Code := (seq1 (seq1 (blockC (seq1 (seq2 (loopC (blockC (seq2 (seq1 (seq2 (seq2 (seq2 (seq2 (seq2 (seq2 (seq2 (seq2 (seq2 (seq2 C4)))))))))))))))))))
noncomputable def q4_36 : Code := (seq1 (condA (seq2 (seq1 (blockC (seq1 (seq2 (loopC (blockC (seq2 (seq1 (seq2 (seq2 (seq2 (seq2 (seq2 (seq2 (seq2 (seq2 (seq2 (seq2 C4)))))))))))))))))))))
noncomputable def q4_37 : Code := (seq1 (seq2 (blockC (seq1 (seq2 (loopC (blockC (seq2 (seq1 (seq2 (seq2 (seq2 (seq2 (seq2 (seq2 (seq2 (seq2 (seq2 (seq2 C4)))))))))))))))))))
noncomputable def q4_38 : Code := (seq1 (seq1 (loopC (blockC (seq2 (seq2 (blockC (seq1 (seq2 (loopC (blockC (seq2 (seq1 (seq2 (seq2 (seq2 (seq2 (seq2 (seq2 (seq2 (seq2 (seq2 (seq2 C4)))))))))))))))))))))))
noncomputable def q4_40 : Code := (seq1 (blockC (seq1 (seq2 (loopC (blockC (seq2 (seq2 (blockC (seq1 (seq2 (loopC (blockC (seq2 (seq1 (seq2 (seq2 (seq2 (seq2 (seq2 (seq2 (seq2 (seq2 (seq2 (seq2 C4)))))))))))))))))))))))))
noncomputable def q4_41 : Code := (seq1 (seq2 (blockC (seq1 (seq2 (loopC (blockC (seq2 (seq2 (blockC (seq1 (seq2 (loopC (blockC (seq2 (seq1 (seq2 (seq2 (seq2 (seq2 (seq2 (seq2 (seq2 (seq2 (seq2 (seq2 C4))))))))))))))))))))))))))
noncomputable def q4_42 : Code := (seq1 (condA (seq2 (seq2 (blockC (seq1 (seq2 (loopC (blockC (seq2 (seq2 (blockC (seq1 (seq2 (loopC (blockC (seq2 (seq1 (seq2 (seq2 (seq2 (seq2 (seq2 (seq2 (seq2 (seq2 (seq2 (seq2 C4))))))))))))))))))))))))))))
noncomputable def q4_39 : Code := (seq2 (seq2 (loopC (blockC (seq2 (seq2 (blockC (seq1 (seq2 (loopC (blockC (seq2 (seq1 (seq2 (seq2 (seq2 (seq2 (seq2 (seq2 (seq2 (seq2 (seq2 (seq2 C4)))))))))))))))))))))))
noncomputable def q4_34 : Code := (seq2 (seq2 (loopC (blockC (seq2 (seq1 (seq2 (seq2 (seq2 (seq2 (seq2 (seq2 (seq2 (seq2 (seq2 (seq2 C4))))))))))))))))
noncomputable def q4_43 : Code := (seq1 (seq2 (seq2 (seq2 (seq2 (seq2 (seq2 (seq2 (seq2 (seq2 (seq2 (seq2 C4))))))))))))
noncomputable def q4_44 : Code := (seq1 (seq2 (seq2 (seq2 (seq2 (seq2 (seq2 (seq2 (seq2 (seq2 (seq2 (seq2 (seq2 C4)))))))))))))
noncomputable def q4_45 : Code := (seq1 (seq1 (seq2 (seq2 (seq2 (seq2 (seq2 (seq2 (seq2 (seq2 (seq2 (seq2 (seq2 (seq2 (seq2 C4)))))))))))))))
noncomputable def q4_46 : Code := (seq1 (seq1 (loopC (blockC (seq2 (seq1 (seq2 (seq2 (seq2 (seq2 (seq2 (seq2 (seq2 (seq2 (seq2 (seq2 (seq2 (seq2 (seq2 C4)))))))))))))))))))
noncomputable def q4_48 : Code := (seq1 (blockC (seq1 (seq2 (loopC (blockC (seq2 (seq1 (seq2 (seq2 (seq2 (seq2 (seq2 (seq2 (seq2 (seq2 (seq2 (seq2 (seq2 (seq2 (seq2 C4)))))))))))))))))))))
noncomputable def q4_49 : Code := (seq1 (seq1 (seq2 (blockC (seq1 (seq2 (loopC (blockC (seq2 (seq1 (seq2 (seq2 (seq2 (seq2 (seq2 (seq2 (seq2 (seq2 (seq2 (seq2 (seq2 (seq2 (seq2 C4)))))))))))))))))))))))
noncomputable def q4_50 : Code := (seq1 (condA (seq2 (seq1 (seq2 (blockC (seq1 (seq2 (loopC (blockC (seq2 (seq1 (seq2 (seq2 (seq2 (seq2 (seq2 (seq2 (seq2 (seq2 (seq2 (seq2 (seq2 (seq2 (seq2 C4)))))))))))))))))))))))))
noncomputable def q4_51 : Code := (seq1 (seq2 (seq2 (blockC (seq1 (seq2 (loopC (blockC (seq2 (seq1 (seq2 (seq2 (seq2 (seq2 (seq2 (seq2 (seq2 (seq2 (seq2 (seq2 (seq2 (seq2 (seq2 C4)))))))))))))))))))))))
noncomputable def q4_52 : Code := (seq1 (seq1 (seq2 (seq2 (seq2 (blockC (seq1 (seq2 (loopC (blockC (seq2 (seq1 (seq2 (seq2 (seq2 (seq2 (seq2 (seq2 (seq2 (seq2 (seq2 (seq2 (seq2 (seq2 (seq2 C4)))))))))))))))))))))))))
noncomputable def q4_53 : Code := (condA (seq2 (seq1 (seq2 (seq2 (seq2 (blockC (seq1 (seq2 (loopC (blockC (seq2 (seq1 (seq2 (seq2 (seq2 (seq2 (seq2 (seq2 (seq2 (seq2 (seq2 (seq2 (seq2 (seq2 (seq2 C4))))))))))))))))))))))))))
noncomputable def q4_54 : Code := (seq1 (seq2 (seq2 (seq2 (seq2 (blockC (seq1 (seq2 (loopC (blockC (seq2 (seq1 (seq2 (seq2 (seq2 (seq2 (seq2 (seq2 (seq2 (seq2 (seq2 (seq2 (seq2 (seq2 (seq2 C4)))))))))))))))))))))))))
noncomputable def q4_55 : Code := (seq1 (condA (seq2 (seq2 (seq2 (seq2 (seq2 (blockC (seq1 (seq2 (loopC (blockC (seq2 (seq1 (seq2 (seq2 (seq2 (seq2 (seq2 (seq2 (seq2 (seq2 (seq2 (seq2 (seq2 (seq2 (seq2 C4)))))))))))))))))))))))))))
noncomputable def q4_47 : Code := (seq2 (seq2 (loopC (blockC (seq2 (seq1 (seq2 (seq2 (seq2 (seq2 (seq2 (seq2 (seq2 (seq2 (seq2 (seq2 (seq2 (seq2 (seq2 C4)))))))))))))))))))
noncomputable def q4_56 : Code := (seq1 (seq2 (seq2 (seq2 (seq2 (seq2 (seq2 (seq2 (seq2 (seq2 (seq2 (seq2 (seq2 (seq2 (seq2 C4)))))))))))))))
noncomputable def K4_1 : Code := q4_12
noncomputable def K4_0 : Code := (.loop (.seq (.seq q4_10 (.cond ( .tmp 64 ) .skip (.exit 0))) (.seq (.block 1 K4_1) q4_11)))
noncomputable def K4_5 : Code := (.seq q4_19 (.seq q4_20 (.cond ( .tmp 96 ) q4_21 .skip)))
noncomputable def K4_4 : Code := (.loop (.seq (.seq q4_17 (.cond ( .tmp 84 ) .skip (.exit 4))) (.seq (.block 5 K4_5) q4_18)))
noncomputable def K4_3 : Code := (.seq q4_16 (.block 4 K4_4))
noncomputable def K4_2 : Code := (.loop (.seq (.seq q4_14 (.cond ( .tmp 75 ) .skip (.exit 2))) (.seq (.block 3 K4_3) q4_15)))
noncomputable def K4_11 : Code := q4_31
noncomputable def K4_10 : Code := (.loop (.seq (.seq q4_29 (.cond ( .tmp 121 ) .skip (.exit 10))) (.seq (.block 11 K4_11) q4_30)))
noncomputable def K4_9 : Code := (.seq q4_28 (.block 10 K4_10))
noncomputable def K4_8 : Code := (.loop (.seq (.seq q4_26 (.cond ( .tmp 116 ) .skip (.exit 8))) (.seq (.block 9 K4_9) q4_27)))
noncomputable def K4_7 : Code := (.seq q4_25 (.block 8 K4_8))
noncomputable def K4_6 : Code := (.loop (.seq (.seq q4_23 (.cond ( .tmp 111 ) .skip (.exit 6))) (.seq (.block 7 K4_7) q4_24)))
noncomputable def K4_15 : Code := (.seq q4_40 (.seq q4_41 (.cond ( .tmp 209 ) (.seq q4_42 .ret) .skip)))
noncomputable def K4_14 : Code := (.loop (.seq (.seq q4_38 (.cond ( .tmp 178 ) .skip (.exit 14))) (.seq (.block 15 K4_15) q4_39)))
noncomputable def K4_13 : Code := (.seq (.seq q4_35 (.cond ( .tmp 171 ) (.seq q4_36 .ret) .skip)) (.seq q4_37 (.block 14 K4_14)))
noncomputable def K4_12 : Code := (.loop (.seq (.seq q4_33 (.cond ( .tmp 158 ) .skip (.exit 12))) (.seq (.block 13 K4_13) q4_34)))
noncomputable def K4_17 : Code := (.seq q4_48 (.seq (.seq q4_49 (.cond ( .tmp 234 ) (.seq q4_50 .ret) .skip)) (.seq q4_51 (.seq (.seq q4_52 (.cond ( .tmp 244 ) q4_53 .skip)) (.seq q4_54 (.cond ( .tmp 261 ) (.seq q4_55 .ret) .skip))))))
noncomputable def K4_16 : Code := (.loop (.seq (.seq q4_46 (.cond ( .tmp 218 ) .skip (.exit 16))) (.seq (.block 17 K4_17) q4_47)))
theorem e4 : C4 = (.seq q4_0 (.seq q4_1 (.seq q4_2 (.seq q4_3 (.seq (.seq q4_4 (.cond ( .tmp 41 ) (.seq q4_5 .ret) .skip)) (.seq (.seq q4_6 (.cond ( .tmp 59 ) (.seq q4_7 .ret) .skip)) (.seq q4_8 (.seq (.seq q4_9 (.block 0 K4_0)) (.seq (.seq q4_13 (.block 2 K4_2)) (.seq (.seq q4_22 (.block 6 K4_6)) (.seq (.seq q4_32 (.block 12 K4_12)) (.seq q4_43 (.seq q4_44 (.seq (.seq q4_45 (.block 16 K4_16)) (.seq q4_56 .ret))))))))))))))) := by kernel_rfl

end Go.Proofs.Ytfjjoohflcchnaa.Gen

namespace Go.Proofs.Ytfjjoohflcchnaa.Gen
open Go Go.Lift Go.Conc Go.RowKit

def Nrm (F : Act → World → Prop) : Exit → Act → World → Prop
  | .normal, a, w => F a w
  | _, _, _ => False
theorem wp_nrm {P : Program} {c : Code} {F : Act → World → Prop} {a : Act} {w : World} (h : c.wp P (Nrm F) a w) : c.wp P (fun e a' w' => e = .normal ∧ F a' w') a w := wp_mono h fun e a w hq => by
  cases e <;> first | exact ⟨rfl, hq⟩ | exact hq.elim
end Go.Proofs.Ytfjjoohflcchnaa.Gen
