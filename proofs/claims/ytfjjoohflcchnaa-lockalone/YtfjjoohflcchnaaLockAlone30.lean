/- LockAlone: for every schedule and all scripts, what threads are told together under the lock is what one thread would be told that makes the calls in the order of the tickets; no conditions. Part 30 of 34. (Joined, by program, of: GMets, GIns, LokFin, GEnd.) -/
import Derived.Test.YtfjjoohflcchnaaLockAlone22
import Derived.Test.YtfjjoohflcchnaaLockAlone23
import Derived.Test.YtfjjoohflcchnaaLockAlone28
import Derived.Test.YtfjjoohflcchnaaLockAlone29
set_option linter.unusedSimpArgs false
set_option linter.unusedVariables false
namespace Go.Proofs.Ytfjjoohflcchnaa.Gen
open Go Go.Lift Go.Conc Go.RowKit

def levK (q : Q) : Nat := match q.1 with
  | 0 => 5
  | 1 => 4
  | 2 => 3
  | 3 => 2
  | 5 => 5
  | 6 => 4
  | 7 => 4
  | _ => 1
def clK (q : Q) : Nat := match q.1 with
  | 1 => 1
  | 2 => 2
  | 3 => 2
  | 4 => 1
  | 5 => 1
  | _ => 0
theorem levK_pos (q : Q) : 1 ≤ levK q := by unfold levK; split <;> omega
theorem levK_le (q : Q) : levK q ≤ 5 := by unfold levK; split <;> omega
def metLock : Met mcLock where
  L := 5
  hL := by decide
  lev := levK
  ws _ _ := 1
  cl := clK
  wq q := q.1 = 6
  ws_le q x := by decide
  start c := by
    unfold mcLock
    simp only
    split
    · exact ⟨by unfold levK; simp, by unfold levK; simp, rfl⟩
    · split
      · exact ⟨by unfold levK; simp, by unfold levK; simp, rfl⟩
      · trivial
  turn q x _ _ := by
    show seatOk 5 levK clK _ (lockNext q x) ∧ _
    have hlev : nlev levK (lockNext q x) < levK q ∨ ((lockEff q x).1.1 = (lockEff q x).1.2 ∧ (lockEff q x).2.1 = x ∧ nlev levK (lockNext q x) = levK q ∧ ∃ j q', lockNext q x = .wait j q') := by
      unfold lockNext
      split
      · exact .inl (by decide : 4 < 5)
      · rename_i a n r
        split
        · exact .inl (by decide : 3 < 4)
        · exact .inr ⟨rfl, rfl, rfl, _, _, rfl⟩
      · exact .inl (by decide : 2 < 3)
      · exact .inl (by decide : 1 < 2)
      · exact .inl (by decide : 0 < 1)
      · exact .inl (by decide : 4 < 5)
      · rename_i a n r
        split
        · exact .inl (by decide : 3 < 4)
        · exact .inl (by decide : 0 < 4)
      · exact .inl (levK_pos q)
    refine ⟨?_, ?_⟩
    · unfold lockNext
      split
      · exact ⟨levK_pos _, levK_le _, rfl⟩
      · split
        · exact ⟨levK_pos _, levK_le _, rfl⟩
        · exact ⟨levK_pos _, levK_le _, rfl⟩
      · exact ⟨levK_pos _, levK_le _, rfl⟩
      · exact ⟨levK_pos _, levK_le _, rfl⟩
      · trivial
      · exact ⟨levK_pos _, levK_le _, rfl⟩
      · split
        · exact ⟨levK_pos _, levK_le _, rfl⟩
        · trivial
      · trivial
    · rcases hlev with h | ⟨h1, h2, h3, j, q', h4⟩
      · exact .inl h
      · refine .inr ⟨h1, h2, h3, ?_⟩
        show (match lockNext q x with | .ans _ _ => False | .turn _ _ q' => clK q' = clK q ∧ 1 + 1 ≤ 1 | .wait _ _ => 1 ≤ 1)
        rw [h4]
        exact Nat.le_refl _
  woke q _ _ hq := by
    obtain ⟨a, b⟩ := q
    have hq : a = 6 := hq
    subst hq
    exact ⟨⟨levK_pos _, levK_le _, rfl⟩, .inr ⟨rfl, fun y => Nat.le_refl _⟩⟩
end Go.Proofs.Ytfjjoohflcchnaa.Gen

namespace Go.Proofs.Ytfjjoohflcchnaa.Gen
open Go Go.Lift Go.Conc Go.RowKit

def InR (x : Int) : Prop := -9223372036854775808 ≤ x ∧ x < 9223372036854775808
def Cl.ok (c : Cl) : Prop := InR c.cb ∧ InR c.cc
/-- Where a list of ints lies that came in. -/
structure InI (W : World) (p : Option Addr) (b o : Nat) (xs : List Int) : Prop where
  at_ : 0 < xs.length → p = some ⟨b, o, none⟩
  cell : ∀ k x, xs[k]? = some x → W.cell? ⟨b, o + k, none⟩ = some (I x)
  inr : ∀ x ∈ xs, InR x
  len : xs.length ≤ 17592186043904
theorem InI.grows {W W' : World} {p : Option Addr} {b o : Nat} {xs : List Int} (h : InI W p b o xs) (g : Grows W W') : InI W' p b o xs :=
  ⟨h.at_, fun k x hk => g.cell (h.cell k x hk), h.inr, h.len⟩
/-- Where scripts lie that came in. -/
structure InS (W : World) (p : Option Addr) (b o n : Nat) (pc : Nat → Option Addr) (ln cp rb : Nat → Nat) (cl : Nat → List Cl) : Prop where
  at_ : 0 < n → p = some ⟨b, o, none⟩
  row : ∀ k, k < n → W.cell? ⟨b, o + k, none⟩ = some (.slice (pc k) (ln k) (cp k))
  len : ∀ j, j < n → (cl j).length = ln j
  pq : ∀ j, j < n → 0 < ln j → pc j = some ⟨rb j, roOf (pc j), none⟩
  call : ∀ j, j < n → ∀ (k : Nat) (c : Cl), (cl j)[k]? = some c → W.cell? ⟨rb j, roOf (pc j) + k * 4, none⟩ = some (I c.po) ∧ W.cell? ⟨rb j, roOf (pc j) + k * 4 + 1, none⟩ = some (I c.ca) ∧ W.cell? ⟨rb j, roOf (pc j) + k * 4 + 2, none⟩ = some (I c.cb) ∧ W.cell? ⟨rb j, roOf (pc j) + k * 4 + 3, none⟩ = some (I c.cc)
  ok : ∀ j, j < n → ∀ c ∈ cl j, InR c.ca ∧ c.ok
  n : n ≤ 17592186043904
theorem InS.grows {W W' : World} {p : Option Addr} {b o n : Nat} {pc : Nat → Option Addr} {ln cp rb : Nat → Nat} {cl : Nat → List Cl} (h : InS W p b o n pc ln cp rb cl) (g : Grows W W') : InS W' p b o n pc ln cp rb cl :=
  ⟨h.at_, fun k hk => g.cell (h.row k hk), h.len, h.pq, fun j hj k c hc => by
    have := h.call j hj k c hc
    exact ⟨g.cell this.1, g.cell this.2.1, g.cell this.2.2.1, g.cell this.2.2.2⟩, h.ok, h.n⟩

theorem lens_scrs (mc : Mc) (fid : FuncId) (caps : Array Value) (pk : Nat → Option Obj) (N n : Nat) (K : List (Nat × Int)) (pc : Nat → Option Addr) (ln cp rb : Nat → Nat) (cl : Nat → List Cl) (hl : ∀ j, j < n → (cl j).length ≤ 64) : lens (scrs mc fid caps pk N n K pc ln cp rb cl) ≤ 64 * n := by
  unfold lens scrs
  rw [List.map_map]
  have : ∀ (m j : Nat), j + m ≤ n → ((List.range' j m).map ((fun s : Scr mc => s.calls.length) ∘ scrOf mc fid caps pk N n (K.map (·.1)) pc ln cp rb cl)).sum ≤ 64 * m := by
    intro m
    induction m with
    | zero => intro j _; simp
    | succ m ih =>
      intro j hj
      rw [List.range'_succ, List.map_cons, List.sum_cons]
      have h1 := ih (j + 1) (by omega)
      have h2 : ((fun s : Scr mc => s.calls.length) ∘ scrOf mc fid caps pk N n (K.map (·.1)) pc ln cp rb cl) j ≤ 64 := hl j (by omega)
      omega
  exact this n 0 (by omega)
theorem scrs_len (mc : Mc) (fid : FuncId) (caps : Array Value) (pk : Nat → Option Obj) (N n : Nat) (K : List (Nat × Int)) (pc : Nat → Option Addr) (ln cp rb : Nat → Nat) (cl : Nat → List Cl) : (scrs mc fid caps pk N n K pc ln cp rb cl).length = n := by simp [scrs]
/-- The world is new: the scripts lie there for Play. -/
theorem asked_of {W v : World} {p : Option Addr} {b o n : Nat} {pc : Nat → Option Addr} {ln cp rb : Nat → Nat} {cl : Nat → List Cl} (h : InS W p b o n pc ln cp rb cl) {xs : List Int} {wb bk : Nat} {sc : Value} (hn : IsNew W xs wb bk sc v) (h64 : ∀ j, j < n → ln j ≤ 64) (h0 : 0 < n) : Asked v (newS wb bk W.heap.size sc xs) n b o pc ln cp rb cl := by
  have g := h.grows hn.old
  have far : ∀ (a : Addr) (x : Value), W.cell? a = some x → ¬ Own (newS wb bk W.heap.size sc xs) [] a.block := fun a x ha ho => by
    have := hn.new _ (.inl ho)
    have := World.block_lt_of_cell? _ _ ha
    omega
  refine ⟨fun j hj => ⟨h.len j hj, h64 j hj⟩, g.row, far _ _ (h.row 0 h0), fun j hj hl => ⟨h.pq j hj hl, ?_⟩, g.call, fun j hj c hc => (h.ok j hj c hc).1⟩
  obtain ⟨c, hc⟩ : ∃ c, (cl j)[0]? = some c := ⟨_, List.getElem?_eq_getElem (by rw [h.len j hj]; exact hl)⟩
  exact far _ _ (h.call j hj 0 c hc).1

end Go.Proofs.Ytfjjoohflcchnaa.Gen

namespace Go.Proofs.Ytfjjoohflcchnaa.Gen
open Go Go.Lift Go.Conc Go.RowKit
open Go.ConcN (upd upd_same upd_ne)

def LowK (k : Nat) (L : List Stp) : Prop := ∀ s ∈ L, ∃ i : Nat, i < k ∧ s.th = (i : Int)
theorem hi_lock {cl : Nat → List Cl} {k : Nat} {cs : List (List Cl)} {v v' : Vw} (h : Hi mcLock k cs v v') : cs = (List.range' k cs.length).map cl → KI k cl [] 0 0 v → LowK k v.L → KI (k + cs.length) cl [] 0 0 v' ∧ LowK (k + cs.length) v'.L := by
  induction h with
  | nil => intro _ hv hl; exact ⟨hv, hl⟩
  | @cons k c cs v v1 v2 X l' hF e1 e2 e3 e4 e5 h ih =>
    intro hc hv hlow
    rw [List.length_cons, List.range'_succ, List.map_cons] at hc
    obtain ⟨hc1, hc2⟩ := List.cons.inj hc
    subst hc1
    rw [hv.stk] at hF
    have hno : ∀ i j, tkd [] 0 i j = false := fun i j => by simp [tkd]
    obtain ⟨f1, f2, f3, f4, f5, f6, f7, f8⟩ := fw_lock (T := []) (d := 0) (b := 0) (calls := cl k) hF (fun _ => 0) rfl (by simp) (Nat.zero_le _) (by simp) (fun j _ => hno k j) (fun j => by rw [if_neg (by omega)]) (fun j hj => by omega)
    have own : v1.l k = l' := by rw [e5.l, upd_same]
    have els : ∀ i, i ≠ k → v1.l i = v.l i := fun i hi => by rw [e5.l, upd_ne _ _ hi]
    have hX : ∀ x ∈ X, x.ce = -1 ∧ x.th = (k : Int) := f4
    have hd0 : drw X = [] := by
      unfold drw
      rw [List.filter_eq_nil_iff.2 (fun x hx => by unfold isT; rw [(hX x hx).1]; simp)]
      rfl
    have ht0 : gst X = [] := List.filter_eq_nil_iff.2 (fun x hx => by rw [(hX x hx).1]; simp)
    have hk : KI (k + 1) cl [] 0 0 v1 := by
      refine ⟨Nat.le_refl _, by rw [e1]; exact hv.num, by rw [e3]; exact hv.chg, by rw [e2]; exact hv.stk, fun h => absurd rfl h, fun i hi => ?_, fun i hi => ?_, fun n t _ ht => by simp at ht, fun n t hn => by omega, fun i hi j hj hT => ?_, fun n m t u _ ht => by simp at ht, Nat.zero_le _, by rw [e4, drw_app, hd0, hv.dr]; rfl, by rw [e4, gst_app, ht0, hv.two]; simp, fun i hi j => ?_⟩
      · by_cases hne : i = k
        · subst hne; rw [own]; exact f1
        · rw [els i hne]; exact hv.len i (by omega)
      · by_cases hne : i = k
        · subst hne; rw [own]; exact f2 _
        · rw [els i hne, e5.oth i hne]; exact hv.seat i (by omega)
      · by_cases hne : i = k
        · subst hne; rw [own] at hj ⊢; exact f8 j hj hT
        · rw [els i hne] at hj ⊢; exact hv.un i (by omega) j hj hT
      · rw [e4, mst_app]
        by_cases hne : i = k
        · subst hne
          rw [own, ← f3 j]
          congr 1
          exact fold_oth v.L 0 (fun x hx => by obtain ⟨i', h1, h2⟩ := hlow x hx; rw [h2]; omega)
        · rw [els i hne, hv.ms i (by omega) j]
          exact fold_oth X _ (fun x hx => by rw [(hX x hx).2]; omega)
    have hlow1 : LowK (k + 1) v1.L := fun s hs => by
      rw [e4, List.mem_append] at hs
      rcases hs with hs | hs
      · obtain ⟨i, h1, h2⟩ := hlow s hs
        exact ⟨i, by omega, h2⟩
      · exact ⟨k, by omega, (hX s hs).2⟩
    have := ih hc2 hk hlow1
    rw [List.length_cons, show k + (cs.length + 1) = k + 1 + cs.length by omega]
    exact this

/-- What a lock's Play comes to. -/
structure LockEnd (n : Nat) (cl : Nat → List Cl) (l : Nat → Ph) (L : List Stp) (T : List Tk) : Prop where
  ord : ∀ (a b : Nat) (t u : Tk), a < b → T[a]? = some t → T[b]? = some u → t.th = u.th → t.k < u.k
  tick : ∀ (m : Nat) (t : Tk), T[m]? = some t → t.th < n ∧ t.k < (cl t.th).length ∧ (∃ c, (cl t.th)[t.k]? = some c ∧ c.ca = t.a) ∧ (l t.th).ans[t.k]? = some (0, sumK T m)
  un : ∀ i, i < n → ∀ k, k < (cl i).length → tkd T T.length i k = false → Un (cl i) (l i).ans k
  dr : drw L = T.map fun t => (t.th : Int)
  two : gst L = pairs T T.length
  ms : ∀ i, i < n → ∀ k, k < (cl i).length → mst i k L = if tkd T T.length i k then 2 else 3
  small : T.length ≤ L.length

theorem mv_len {mc : Mc} {N : Nat} {v v1 : Vw} (m : Mv mc N v v1) : v.L.length ≤ v1.L.length := by
  cases m with
  | stuck _ _ _ e => rw [e]; simp
  | turn _ _ _ _ _ _ _ _ _ _ _ _ _ _ _ _ eL => rw [eL]; simp
  | wake _ _ _ _ _ _ _ _ _ _ _ _ _ _ _ _ _ eL => rw [eL]; simp
  | free _ _ _ _ _ _ _ _ _ _ _ _ _ _ _ _ eL => rw [eL]; simp

theorem lock_run {caps : Array Value} {pk : Nat → Option Obj} {N n : Nat} {K : List (Nat × Int)} (hK : K.map (·.2) = [0, 0, 0]) {pc : Nat → Option Addr} {ln cp rb : Nat → Nat} {cl : Nat → List Cl} {wb bk base : Nat} {sc cv : Value} {sched : List Int} {l0 l1 : Nat → Ph} {S1 : TS} {m : Nat} {p' : PSt} (hl0 : ∀ i, l0 i = .done [])
    (hlen : ∀ j, j < n → (cl j).length = ln j ∧ ln j ≤ 64) (hn8 : n ≤ 8)
    (hH : Hires mcLock 0 (scrs mcLock 66 caps pk N n K pc ln cp rb cl) (nv { cellsS (newS wb bk base sc sched) cv 3 with ran := true }) l0 S1 l1) (hT : Turns mcLock m ⟨S1, K, l1⟩ p') (hsm : p'.S.n ≤ 400000) :
    ∃ L T, p'.S.tr = flat L ∧ p'.S.n = L.length ∧ p'.S.stk = false ∧ LockEnd n cl p'.l L T := by
  let v0 : Vw := ⟨[0, 0, 0], false, [0, 0, 0], fun _ => 0, l0, []⟩
  have hs0 : Seen ⟨nv { cellsS (newS wb bk base sc sched) cv 3 with ran := true }, K, l0⟩ v0 := ⟨hK.symm, rfl, rfl, fun i => rfl, rfl, rfl, rfl, fun i t ht => by cases ht⟩
  have hcs : (scrs mcLock 66 caps pk N n K pc ln cp rb cl).map (·.calls) = (List.range' 0 n).map cl := by
    unfold scrs
    rw [List.map_map]
    rfl
  obtain ⟨v1, hi1, hs1⟩ := hires_hi (K := K) hH v0 rfl (fun s hs => by
    simp only [scrs, List.mem_map, List.mem_range'] at hs
    obtain ⟨j, ⟨i, hi, rfl⟩, rfl⟩ := hs
    show List.replicate (ln (0 + 1 * i)) (0, 0) = List.replicate (cl (0 + 1 * i)).length (0, 0)
    rw [(hlen _ (by omega)).1]) hs0
  rw [hcs] at hi1
  obtain ⟨hki, _⟩ := hi_lock (cl := cl) hi1 (by simp) ⟨Nat.le_refl _, rfl, ⟨0, 0, rfl⟩, rfl, fun h => absurd rfl h, fun i hi => by omega, fun i hi => by omega, fun n t _ ht => by simp at ht, fun n t hn => by omega, fun i hi => by omega, fun n m t u _ ht => by simp at ht, Nat.zero_le _, rfl, rfl, fun i hi => by omega⟩ (fun s hs => nomatch hs)
  rw [Nat.zero_add, List.length_map, List.length_range'] at hki
  obtain ⟨a1, a2, a3, a4⟩ := hires_gd metLock hH rfl (by rw [scrs_len]; omega) (fun i t ht => by cases ht)
  rw [scrs_len, Nat.zero_add] at a1
  have g : Gd metLock ⟨S1, K, l1⟩ := ⟨by show S1.thr.length ≤ 8; omega, a2⟩
  obtain ⟨v', hI, hs', _, hd⟩ := turns_mv metLock (N := n) (Inv := fun v => v.L.length ≤ 400000 → ∃ T d b, KI n cl T d b v) (fun v v1 hv hm hB => by
    have hB0 : v.L.length ≤ 400000 := Nat.le_trans (mv_len hm) hB
    obtain ⟨T, d, b, hk⟩ := hv hB0
    exact lock_mv hk hB0 hm) hT v1 a1 g hs1 (fun _ => ⟨[], 0, 0, hki⟩)
  obtain ⟨T, d, b, hk⟩ := hI (by rw [← hs'.n]; exact hsm)
  have hdT : d = T.length := by
    by_cases h : d < T.length
    · obtain ⟨h1, h2⟩ := hk.hold d _ (Nat.le_refl _) (List.getElem?_eq_getElem h)
      obtain ⟨a, ha⟩ := hd _ h1
      rw [ha] at h2
      exact h2.elim
    · have := hk.le; omega
  have hb0 : b = 0 := by
    cases hb : b with
    | zero => rfl
    | succ b' => have := hk.bb (by omega); omega
  subst hb0
  have hup : ∀ i, i < n → upK (cl i) (v'.l i) = (cl i).length := fun i hi => by
    obtain ⟨a, ha⟩ := hd i hi
    rw [ha]
    rfl
  refine ⟨v'.L, T, hs'.tr, hs'.n, by rw [← hs'.stk]; exact hk.stk, ?_⟩
  rw [← hs'.l]
  refine ⟨hk.ord, fun m t ht => ?_, fun i hi k hk' hT => ?_, hk.dr, ?_, fun i hi k hk' => ?_, hk.small⟩
  · have hm : m < d := by rw [hdT]; exact (List.getElem?_eq_some_iff.1 ht).1
    obtain ⟨h1, h2, h3, h4⟩ := hk.old m t hm ht
    rw [hup _ h1] at h2
    exact ⟨h1, h2, h3, h4⟩
  · exact hk.un i hi k (by rw [hup i hi]; exact hk') (by rw [hdT]; exact hT)
  · rw [hk.two, hdT]
    simp [cur]
  · rw [hk.ms i hi k]
    obtain ⟨a, ha⟩ := hd i hi
    rw [ha]
    show (if k < (cl i).length then wantM T d i k else 0) = _
    rw [if_pos hk', hdT]
    rfl
end Go.Proofs.Ytfjjoohflcchnaa.Gen

namespace Go.Proofs.Ytfjjoohflcchnaa.Gen
open Go Go.Lift Go.Conc Go.RowKit

/-- Code that returns, walked alone. -/
theorem goesI_retZ {Ch : Nat → Prop} {Stop : Goroutine → World → Prop} {main : Bool} {f : FuncId} {c : Code} {act : Act} {more : List Item} {cs : List Frame} {v w : World} {Q : Act → World → Prop} (hvw : Rel zn v w) (hn : NoRow Ch v) (hc : fineCode Try.prog true LV c) (ha : act.defers = [])
    (hwp : ∀ τ, c.wp Try.prog (fun e a w' => e = .ret ∧ Q a w') act (onTape v τ 0))
    (h : ∀ a' v' w' todo, Q a' v' → a'.defers = [] → Rel zn v' w' → NoRow Ch v' → GoesI Try.prog main (DT (ScZ zn) Ch) Stop (G { (base f).at a' todo with mode := .returning } cs) w') :
    GoesI Try.prog main (DT (ScZ zn) Ch) Stop (G ((base f).at act (.code c :: more)) cs) w := by
  have hfin := lift_code (P := Try.prog) (z := zn) (wr := true) (L := LV) (D := DT (ScZ zn) Ch) (I := NoRow Ch) (main := main) (b := base f) (k := more) (cs := cs) hE fineV noRow_keeps (fun v v' w w' es hi hr ho he => dt_of_z v v' w w' es hi hr ho he) hvw hc ha (by simp [base]) hn
    (Q := fun e a w' => e = .ret ∧ Q a w') hwp (fun e a w hq => .inr hq.1)
  refine hfin.then ?_
  rintro g w' ⟨a', v', hr, hiv, hd, ⟨⟨hq, _⟩, _⟩ | ⟨⟨_, hQ⟩, todo, rfl⟩⟩
  · cases hq
  · exact h a' v' w' todo hQ hd hr hiv

theorem _root_.Go.Proofs.Ytfjjoohflcchnaa.Grows.toAt {W v w : World} (h : Grows W v) (hr : Rel zn v w) (d : Nat) : Grows W (w.at d) := by
  have e : (w.at d).heap = v.heap := hr.eq
  exact ⟨by rw [e]; exact h.size, fun b hb => by rw [e]; exact h.old b hb, hr.os.trans h.os, hr.output.trans h.output⟩
theorem _root_.Go.Proofs.Ytfjjoohflcchnaa.Grows.andThen {W v w : World} (h : Grows W v) (k : Grows v w) : Grows W w := ⟨Nat.le_trans h.size k.size, fun b hb => by rw [k.old b (by have := h.size; omega), h.old b hb], k.os.trans h.os, k.output.trans h.output⟩
def PostT (W : World) (r : Value) (w' : World) : Prop := r = .bool true ∧ Grows W w'
end Go.Proofs.Ytfjjoohflcchnaa.Gen
