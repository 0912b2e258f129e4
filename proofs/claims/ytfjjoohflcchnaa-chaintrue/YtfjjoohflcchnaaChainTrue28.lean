/- ChainTrue: who is told of a ring lies on one; no call takes longer than it may; whatever the schedule, the number of keys and the scripts. Part 28 of 36. (Joined, by program, of: La4Q, La4a.) -/
import Derived.Test.YtfjjoohflcchnaaChainTrue27
set_option linter.unusedSimpArgs false
set_option linter.unusedVariables false
namespace Go.Proofs.Ytfjjoohflcchnaa.Gen
open Go Go.Lift Go.Conc Go.RowKit

def Nrm (F : Act → World → Prop) : Exit → Act → World → Prop
  | .normal, a, w => F a w
  | _, _, _ => False
theorem wp_nrm {P : Program} {c : Code} {F : Act → World → Prop} {a : Act} {w : World} (h : c.wp P (Nrm F) a w) : c.wp P (fun e a' w' => e = .normal ∧ F a' w') a w := wp_mono h fun e a w hq => by
  cases e <;> first | exact ⟨rfl, hq⟩ | exact hq.elim
set_option maxHeartbeats 4000000 in
set_option maxRecDepth 100000 in
theorem p4_21 {v : World} {a : Act} {n N b o cap M wb G : Nat} {i k : Nat} {x : Nat} {ca cb : Int} {W : Int → Nat} {t : Bool} (H : Hid (∀ (x : Int) (w : World), Calls Try.prog 51 #[I x, I (n : Nat)] w (fun e w' => ∃ r, e = .returned r ∧ (r = I (W x) ∧ w' = w)))) (c1 : v.cell? ⟨x, 1, none⟩ = some (I ca)) (c2 : v.cell? ⟨x, 2, none⟩ = some (I cb)) (g1 : ((W ca : Nat) : Int) < (n : Int)) (g2 : ((W cb : Nat) : Int) < (n : Int)) (e1 : v.cell? ⟨G, W ca, none⟩ = some (.slice (some ⟨G + 1 + W ca, 0, none⟩) n n)) (e2 : v.cell? ⟨G + 1 + W ca, W cb, none⟩ = some (.bool t)) (e3 : v.frozen? ⟨G + 1 + W ca, W cb, none⟩ = false) (hA : Fl 262 [(1, I (n : Nat)), (2, .slice (some ⟨b, o, none⟩) N cap), (8, Pt wb 0), (9, .slice (some ⟨M, 0, none⟩) N N), (11, .slice (some ⟨G, 0, none⟩) n n), (13, I (i : Nat)), (14, I (k : Nat)), (15, Pt x 0)] a) :
    q4_21.wp Try.prog (Nrm fun a' w' => (Fl 262 [(1, I (n : Nat)), (2, .slice (some ⟨b, o, none⟩) N cap), (8, Pt wb 0), (9, .slice (some ⟨M, 0, none⟩) N N), (11, .slice (some ⟨G, 0, none⟩) n n), (13, I (i : Nat)), (14, I (k : Nat))] a' ∧ (w'.heap = (v.setCell ⟨G + 1 + W ca, W cb, none⟩ (.bool true)).heap ∧ w'.os = v.os ∧ w'.output = v.output))) a v := by
  obtain ⟨hsz, hd, hp⟩ := hA
  obtain ⟨u, rfl, hg⟩ := litN hsz hd
  simp only [List.forall_mem_cons, hg] at hp
  obtain ⟨u1, u2, u8, u9, u11, u13, u14, u15, -⟩ := hp
  clear hg hsz hd
  unfold q4_21 C4 Try.f16 seq1 seq2 condA blockC loopC
  simp only [Option.getD_some, lits, Nat.reduceAdd, u1, u2, u8, u9, u11, u13, u14, u15]
  clear u1 u2 u8 u9 u11 u13 u14 u15
  go_region_with (first
    | (go_at_call 51; refine (H.out _ _).mono ?_; rintro e w1 ⟨_, rfl, rfl, rfl⟩))
  all_goals exact ⟨⟨rfl, rfl, by
      intro p hp
      simp only [List.mem_cons, List.not_mem_nil, or_false] at hp
      rcases hp with rfl | rfl | rfl | rfl | rfl | rfl | rfl <;> first | rfl | exact congrArg I (by omega) | exact congrArg Value.bool (by simp <;> omega) | exact congrArg Value.bool (by simp) | (simp; done)⟩, rfl, rfl, rfl⟩

set_option maxHeartbeats 4000000 in
set_option maxRecDepth 100000 in
theorem p4_31t {v : World} {a : Act} {n N b o cap M wb G : Nat} {m i k : Nat} {T : Nat → Nat → Bool} (hm : m < n) (hi : i < n) (hk : k < n) (hT : Tb n G T v) (h1 : T i k = true) (hA : Fl 262 [(1, I (n : Nat)), (2, .slice (some ⟨b, o, none⟩) N cap), (8, Pt wb 0), (9, .slice (some ⟨M, 0, none⟩) N N), (11, .slice (some ⟨G, 0, none⟩) n n), (16, I (m : Nat)), (17, I (i : Nat)), (18, I (k : Nat))] a) :
    q4_31.wp Try.prog (Nrm fun a' w' => (Fl 262 [(1, I (n : Nat)), (2, .slice (some ⟨b, o, none⟩) N cap), (8, Pt wb 0), (9, .slice (some ⟨M, 0, none⟩) N N), (11, .slice (some ⟨G, 0, none⟩) n n), (16, I (m : Nat)), (17, I (i : Nat)), (18, I (k : Nat))] a' ∧ (w'.heap = (v.setCell ⟨G + 1 + i, k, none⟩ (.bool true)).heap ∧ w'.os = v.os ∧ w'.output = v.output))) a v := by
  have hm' : (m : Int) < (n : Int) := by omega
  have hi' : (i : Int) < (n : Int) := by omega
  have hk' : (k : Int) < (n : Int) := by omega
  have e1 := hT.out.cell hi
  have e2 := hT.out.cell hm
  have e3 := (hT.row i hi).cell hk
  have e4 := (hT.row i hi).cell hm
  have e5 := (hT.row m hm).cell hk
  have e6 := (hT.row i hi).frozen k
  clear hT
  rw [h1] at e3
  obtain ⟨hsz, hd, hp⟩ := hA
  obtain ⟨u, rfl, hg⟩ := litN hsz hd
  simp only [List.forall_mem_cons, hg] at hp
  obtain ⟨u1, u2, u8, u9, u11, u16, u17, u18, -⟩ := hp
  clear hg hsz hd
  unfold q4_31 C4 Try.f16 seq1 seq2 blockC loopC
  simp only [Option.getD_some, lits, Nat.reduceAdd, u1, u2, u8, u9, u11, u16, u17, u18]
  clear u1 u2 u8 u9 u11 u16 u17 u18
  go_region
  all_goals (first | exact ⟨⟨rfl, rfl, by
      intro p hp
      simp only [List.mem_cons, List.not_mem_nil, or_false] at hp
      rcases hp with rfl | rfl | rfl | rfl | rfl | rfl | rfl | rfl <;> first | rfl | exact congrArg I (by omega) | exact congrArg Value.bool (by simp <;> omega) | exact congrArg Value.bool (by simp) | (simp; done)⟩, rfl, rfl, rfl⟩ | exact ⟨rfl, ⟨rfl, rfl, by
      intro p hp
      simp only [List.mem_cons, List.not_mem_nil, or_false] at hp
      rcases hp with rfl | rfl | rfl | rfl | rfl | rfl | rfl | rfl <;> first | rfl | exact congrArg I (by omega) | exact congrArg Value.bool (by simp <;> omega) | exact congrArg Value.bool (by simp) | (simp; done)⟩, rfl, rfl, rfl⟩)

set_option maxHeartbeats 4000000 in
set_option maxRecDepth 100000 in
theorem p4_31f {v : World} {a : Act} {n N b o cap M wb G : Nat} {m i k : Nat} {T : Nat → Nat → Bool} (hm : m < n) (hi : i < n) (hk : k < n) (hT : Tb n G T v) (h1 : T i k = false) (h2 : T i m = false) (hA : Fl 262 [(1, I (n : Nat)), (2, .slice (some ⟨b, o, none⟩) N cap), (8, Pt wb 0), (9, .slice (some ⟨M, 0, none⟩) N N), (11, .slice (some ⟨G, 0, none⟩) n n), (16, I (m : Nat)), (17, I (i : Nat)), (18, I (k : Nat))] a) :
    q4_31.wp Try.prog (Nrm fun a' w' => (Fl 262 [(1, I (n : Nat)), (2, .slice (some ⟨b, o, none⟩) N cap), (8, Pt wb 0), (9, .slice (some ⟨M, 0, none⟩) N N), (11, .slice (some ⟨G, 0, none⟩) n n), (16, I (m : Nat)), (17, I (i : Nat)), (18, I (k : Nat))] a' ∧ (w'.heap = (v.setCell ⟨G + 1 + i, k, none⟩ (.bool false)).heap ∧ w'.os = v.os ∧ w'.output = v.output))) a v := by
  have hm' : (m : Int) < (n : Int) := by omega
  have hi' : (i : Int) < (n : Int) := by omega
  have hk' : (k : Int) < (n : Int) := by omega
  have e1 := hT.out.cell hi
  have e2 := hT.out.cell hm
  have e3 := (hT.row i hi).cell hk
  have e4 := (hT.row i hi).cell hm
  have e5 := (hT.row m hm).cell hk
  have e6 := (hT.row i hi).frozen k
  clear hT
  rw [h1] at e3
  rw [h2] at e4
  obtain ⟨hsz, hd, hp⟩ := hA
  obtain ⟨u, rfl, hg⟩ := litN hsz hd
  simp only [List.forall_mem_cons, hg] at hp
  obtain ⟨u1, u2, u8, u9, u11, u16, u17, u18, -⟩ := hp
  clear hg hsz hd
  unfold q4_31 C4 Try.f16 seq1 seq2 blockC loopC
  simp only [Option.getD_some, lits, Nat.reduceAdd, u1, u2, u8, u9, u11, u16, u17, u18]
  clear u1 u2 u8 u9 u11 u16 u17 u18
  go_region
  all_goals (first | exact ⟨⟨rfl, rfl, by
      intro p hp
      simp only [List.mem_cons, List.not_mem_nil, or_false] at hp
      rcases hp with rfl | rfl | rfl | rfl | rfl | rfl | rfl | rfl <;> first | rfl | exact congrArg I (by omega) | exact congrArg Value.bool (by simp <;> omega) | exact congrArg Value.bool (by simp) | (simp; done)⟩, rfl, rfl, rfl⟩ | exact ⟨rfl, ⟨rfl, rfl, by
      intro p hp
      simp only [List.mem_cons, List.not_mem_nil, or_false] at hp
      rcases hp with rfl | rfl | rfl | rfl | rfl | rfl | rfl | rfl <;> first | rfl | exact congrArg I (by omega) | exact congrArg Value.bool (by simp <;> omega) | exact congrArg Value.bool (by simp) | (simp; done)⟩, rfl, rfl, rfl⟩)

set_option maxHeartbeats 4000000 in
set_option maxRecDepth 100000 in
theorem p4_31g {v : World} {a : Act} {n N b o cap M wb G : Nat} {m i k : Nat} {T : Nat → Nat → Bool} (hm : m < n) (hi : i < n) (hk : k < n) (hT : Tb n G T v) (h1 : T i k = false) (h2 : T i m = true) (hA : Fl 262 [(1, I (n : Nat)), (2, .slice (some ⟨b, o, none⟩) N cap), (8, Pt wb 0), (9, .slice (some ⟨M, 0, none⟩) N N), (11, .slice (some ⟨G, 0, none⟩) n n), (16, I (m : Nat)), (17, I (i : Nat)), (18, I (k : Nat))] a) :
    q4_31.wp Try.prog (Nrm fun a' w' => (Fl 262 [(1, I (n : Nat)), (2, .slice (some ⟨b, o, none⟩) N cap), (8, Pt wb 0), (9, .slice (some ⟨M, 0, none⟩) N N), (11, .slice (some ⟨G, 0, none⟩) n n), (16, I (m : Nat)), (17, I (i : Nat)), (18, I (k : Nat))] a' ∧ (w'.heap = (v.setCell ⟨G + 1 + i, k, none⟩ (.bool (T m k))).heap ∧ w'.os = v.os ∧ w'.output = v.output))) a v := by
  have hm' : (m : Int) < (n : Int) := by omega
  have hi' : (i : Int) < (n : Int) := by omega
  have hk' : (k : Int) < (n : Int) := by omega
  have e1 := hT.out.cell hi
  have e2 := hT.out.cell hm
  have e3 := (hT.row i hi).cell hk
  have e4 := (hT.row i hi).cell hm
  have e5 := (hT.row m hm).cell hk
  have e6 := (hT.row i hi).frozen k
  clear hT
  rw [h1] at e3
  rw [h2] at e4
  obtain ⟨hsz, hd, hp⟩ := hA
  obtain ⟨u, rfl, hg⟩ := litN hsz hd
  simp only [List.forall_mem_cons, hg] at hp
  obtain ⟨u1, u2, u8, u9, u11, u16, u17, u18, -⟩ := hp
  clear hg hsz hd
  unfold q4_31 C4 Try.f16 seq1 seq2 blockC loopC
  simp only [Option.getD_some, lits, Nat.reduceAdd, u1, u2, u8, u9, u11, u16, u17, u18]
  clear u1 u2 u8 u9 u11 u16 u17 u18
  go_region
  all_goals (first | exact ⟨⟨rfl, rfl, by
      intro p hp
      simp only [List.mem_cons, List.not_mem_nil, or_false] at hp
      rcases hp with rfl | rfl | rfl | rfl | rfl | rfl | rfl | rfl <;> first | rfl | exact congrArg I (by omega) | exact congrArg Value.bool (by simp <;> omega) | exact congrArg Value.bool (by simp) | (simp; done)⟩, rfl, rfl, rfl⟩ | exact ⟨rfl, ⟨rfl, rfl, by
      intro p hp
      simp only [List.mem_cons, List.not_mem_nil, or_false] at hp
      rcases hp with rfl | rfl | rfl | rfl | rfl | rfl | rfl | rfl <;> first | rfl | exact congrArg I (by omega) | exact congrArg Value.bool (by simp <;> omega) | exact congrArg Value.bool (by simp) | (simp; done)⟩, rfl, rfl, rfl⟩)

set_option maxHeartbeats 4000000 in
set_option maxRecDepth 100000 in
theorem p4_35 {v : World} {a : Act} {n N b o cap M wb G : Nat} {i A L cc : Nat} {p : Option Addr} (hi : i < N) (c : v.cell? ⟨b, o + i, none⟩ = some (.slice p L cc)) (d : v.cell? ⟨M, i, none⟩ = some (.slice (some ⟨A, 0, none⟩) L L)) (hA : Fl 262 [(1, I (n : Nat)), (2, .slice (some ⟨b, o, none⟩) N cap), (8, Pt wb 0), (9, .slice (some ⟨M, 0, none⟩) N N), (11, .slice (some ⟨G, 0, none⟩) n n), (19, I (i : Nat))] a) :
    q4_35.wp Try.prog (Nrm fun a' w' => (Fl 262 [(171, .bool false), (1, I (n : Nat)), (2, .slice (some ⟨b, o, none⟩) N cap), (8, Pt wb 0), (9, .slice (some ⟨M, 0, none⟩) N N), (11, .slice (some ⟨G, 0, none⟩) n n), (19, I (i : Nat))] a' ∧ (w'.heap = v.heap ∧ w'.os = v.os ∧ w'.output = v.output))) a v := by
  have hi' : (i : Int) < (N : Int) := by omega
  have hnl : ¬ N ≤ i := by omega
  obtain ⟨hsz, hd, hp⟩ := hA
  obtain ⟨u, rfl, hg⟩ := litN hsz hd
  simp only [List.forall_mem_cons, hg] at hp
  obtain ⟨u1, u2, u8, u9, u11, u19, -⟩ := hp
  clear hg hsz hd
  unfold q4_35 C4 Try.f16 seq1 seq2 blockC loopC
  simp only [Option.getD_some, lits, Nat.reduceAdd, u1, u2, u8, u9, u11, u19]
  clear u1 u2 u8 u9 u11 u19
  go_region
  exact ⟨⟨rfl, rfl, by
    intro p hp
    simp only [List.mem_cons, List.not_mem_nil, or_false] at hp
    rcases hp with rfl | rfl | rfl | rfl | rfl | rfl | rfl <;> first | rfl | exact congrArg I (by omega) | exact congrArg Value.bool (by simp <;> omega) | exact congrArg Value.bool (by simp) | (simp; done)⟩, rfl, rfl, rfl⟩

end Go.Proofs.Ytfjjoohflcchnaa.Gen

namespace Go.Proofs.Ytfjjoohflcchnaa.Gen
open Go Go.Lift Go.Conc Go.RowKit

set_option maxHeartbeats 1000000 in
set_option maxRecDepth 100000 in
theorem p4_18 {v : World} {a : Act} {n N b o cap M wb G : Nat} {k : Nat} {i : Nat} (hq : k < 1000000000) (hA : Fl 262 [(1, I (n : Nat)), (2, .slice (some ⟨b, o, none⟩) N cap), (8, Pt wb 0), (9, .slice (some ⟨M, 0, none⟩) N N), (11, .slice (some ⟨G, 0, none⟩) n n), (13, I (i : Nat)), (14, I (k : Nat))] a) :
    q4_18.wp Try.prog (fun e a' w' => e = .normal ∧ (Fl 262 [(1, I (n : Nat)), (2, .slice (some ⟨b, o, none⟩) N cap), (8, Pt wb 0), (9, .slice (some ⟨M, 0, none⟩) N N), (11, .slice (some ⟨G, 0, none⟩) n n), (13, I (i : Nat)), (14, I ((k + 1 : Nat) : Int))] a' ∧ w' = v)) a v := by
  have h9 : wrap64 ((k : Int) + 1) = ((k + 1 : Nat) : Int) := by unfold wrap64; omega
  obtain ⟨hsz, hd, hp⟩ := hA
  obtain ⟨u, rfl, hg⟩ := litN hsz hd
  simp only [List.forall_mem_cons, hg] at hp
  obtain ⟨u1, u2, u8, u9, u11, u13, u14, -⟩ := hp
  clear hg hsz hd
  unfold q4_18 C4 Try.f16 seq1 seq2 blockC loopC
  simp only [Option.getD_some, lits, Nat.reduceAdd, u1, u2, u8, u9, u11, u13, u14]
  clear u1 u2 u8 u9 u11 u13 u14
  go_wp2_with fail
  first
    | exact ⟨⟨rfl, rfl, by
      intro p hp
      simp only [List.mem_cons, List.not_mem_nil, or_false] at hp
      rcases hp with rfl | rfl | rfl | rfl | rfl | rfl | rfl <;> first | rfl | exact congrArg I (by omega) | exact congrArg Value.bool (by simp <;> omega) | exact congrArg Value.bool (by simp) | (simp; done)⟩, rfl⟩
    | exact ⟨rfl, rfl, by
      intro p hp
      simp only [List.mem_cons, List.not_mem_nil, or_false] at hp
      rcases hp with rfl | rfl | rfl | rfl | rfl | rfl | rfl <;> first | rfl | exact congrArg I (by omega) | exact congrArg Value.bool (by simp <;> omega) | exact congrArg Value.bool (by simp) | (simp; done)⟩
    | exact ⟨rfl, ⟨rfl, rfl, by
      intro p hp
      simp only [List.mem_cons, List.not_mem_nil, or_false] at hp
      rcases hp with rfl | rfl | rfl | rfl | rfl | rfl | rfl <;> first | rfl | exact congrArg I (by omega) | exact congrArg Value.bool (by simp <;> omega) | exact congrArg Value.bool (by simp) | (simp; done)⟩, rfl⟩

set_option maxHeartbeats 1000000 in
set_option maxRecDepth 100000 in
theorem p4_15 {v : World} {a : Act} {n N b o cap M wb G : Nat} {i : Nat} (hq : i < 1000000000) (hA : Fl 262 [(1, I (n : Nat)), (2, .slice (some ⟨b, o, none⟩) N cap), (8, Pt wb 0), (9, .slice (some ⟨M, 0, none⟩) N N), (11, .slice (some ⟨G, 0, none⟩) n n), (13, I (i : Nat))] a) :
    q4_15.wp Try.prog (fun e a' w' => e = .normal ∧ (Fl 262 [(1, I (n : Nat)), (2, .slice (some ⟨b, o, none⟩) N cap), (8, Pt wb 0), (9, .slice (some ⟨M, 0, none⟩) N N), (11, .slice (some ⟨G, 0, none⟩) n n), (13, I ((i + 1 : Nat) : Int))] a' ∧ w' = v)) a v := by
  have h9 : wrap64 ((i : Int) + 1) = ((i + 1 : Nat) : Int) := by unfold wrap64; omega
  obtain ⟨hsz, hd, hp⟩ := hA
  obtain ⟨u, rfl, hg⟩ := litN hsz hd
  simp only [List.forall_mem_cons, hg] at hp
  obtain ⟨u1, u2, u8, u9, u11, u13, -⟩ := hp
  clear hg hsz hd
  unfold q4_15 C4 Try.f16 seq1 seq2 blockC loopC
  simp only [Option.getD_some, lits, Nat.reduceAdd, u1, u2, u8, u9, u11, u13]
  clear u1 u2 u8 u9 u11 u13
  go_wp2_with fail
  first
    | exact ⟨⟨rfl, rfl, by
      intro p hp
      simp only [List.mem_cons, List.not_mem_nil, or_false] at hp
      rcases hp with rfl | rfl | rfl | rfl | rfl | rfl <;> first | rfl | exact congrArg I (by omega) | exact congrArg Value.bool (by simp <;> omega) | exact congrArg Value.bool (by simp) | (simp; done)⟩, rfl⟩
    | exact ⟨rfl, rfl, by
      intro p hp
      simp only [List.mem_cons, List.not_mem_nil, or_false] at hp
      rcases hp with rfl | rfl | rfl | rfl | rfl | rfl <;> first | rfl | exact congrArg I (by omega) | exact congrArg Value.bool (by simp <;> omega) | exact congrArg Value.bool (by simp) | (simp; done)⟩
    | exact ⟨rfl, ⟨rfl, rfl, by
      intro p hp
      simp only [List.mem_cons, List.not_mem_nil, or_false] at hp
      rcases hp with rfl | rfl | rfl | rfl | rfl | rfl <;> first | rfl | exact congrArg I (by omega) | exact congrArg Value.bool (by simp <;> omega) | exact congrArg Value.bool (by simp) | (simp; done)⟩, rfl⟩


section
variable {n N b o cap M wb G : Nat} {Q : Exit → Act → World → Prop} {a : Act} {u v : World}
theorem size_set (w : World) (c : Addr) (x : Value) : (w.setCell c x).heap.size = w.heap.size := by simp [World.setCell]
theorem size_alloc (w : World) (o : Obj) : (w.alloc o).heap.size = w.heap.size + 1 := by show (w.heap.push o).size = _; simp
theorem Fl.hc {n k : Nat} {c : Bool} {l : List (Nat × Value)} {a : Act} (h : Fl n ((k, .bool c) :: l) a) : a.eval (.tmp k) = .bool c := h.2.2 (k, .bool c) (.head _)

/-- The rows are made. -/
theorem la4_rows (hn1 : n ≤ 100) (hG : u.heap.size = G + 1) (hR : u.rowIs G 79 n (fun _ => .slice none 0 0)) (hA : Fl 262 [(1, I (n : Nat)), (2, .slice (some ⟨b, o, none⟩) N cap), (8, Pt wb 0), (9, .slice (some ⟨M, 0, none⟩) N N), (11, .slice (some ⟨G, 0, none⟩) n n)] a)
    (k : ∀ a' u', Fl 262 [(1, I (n : Nat)), (2, .slice (some ⟨b, o, none⟩) N cap), (8, Pt wb 0), (9, .slice (some ⟨M, 0, none⟩) N N), (11, .slice (some ⟨G, 0, none⟩) n n)] a' → Tb n G (fun _ _ => false) u' → u'.heap.size = G + 1 + n → Kq G u u' → Q .normal a' u') : (Code.seq q4_9 (.block 0 K4_0)).wp Try.prog Q a u := by
  refine wp_then (p4_9 hA) fun a1 w1 h => ?_
  obtain ⟨h1, rfl⟩ := h
  unfold K4_0
  refine wp_while (t := 64) (fun c a x => ∃ i, i ≤ n ∧ c = n - i ∧ Fl 262 [(1, I (n : Nat)), (2, .slice (some ⟨b, o, none⟩) N cap), (8, Pt wb 0), (9, .slice (some ⟨M, 0, none⟩) N N), (11, .slice (some ⟨G, 0, none⟩) n n), (12, I (i : Nat))] a ∧ x.heap.size = G + 1 + i ∧ x.rowIs G 79 n (fun j => if j < i then .slice (some ⟨G + 1 + j, 0, none⟩) n n else .slice none 0 0) ∧ (∀ j, j < i → x.rowIs (G + 1 + j) 4 n (fun _ => .bool false)) ∧ Kq G w1 x) _
    ⟨0, Nat.zero_le _, rfl, h1, by omega, hR.congr (fun i _ => by simp), fun j hj => by omega, Kq.refl _ _⟩ ?_
  clear h1 hR hA
  rintro c a2 x ⟨i, hi, rfl, h2, hs, hr, hrow, hk⟩
  refine ⟨_, p4_10 h2, ?_⟩
  rintro a3 w3 ⟨h3, rfl⟩
  by_cases hlt : i < n
  · refine .inr ⟨h3.hd (by simp [hlt]), ?_⟩
    refine wp_seq (wp_block ?_)
    unfold K4_1
    refine wp_last (p4_12 hlt hn1 hr h3.tl) fun a4 w4 h => ?_
    obtain ⟨h4, hw⟩ := h
    show Code.wp _ _ _ _ _
    refine wp_last (p4_11 (by omega) h4) fun a5 w5 h => ?_
    obtain ⟨h5, rfl⟩ := h
    subst hw
    have hm := World.rowIs_made w3 (.bool false) n 4
    refine ⟨n - (i + 1), by omega, i + 1, by omega, rfl, h5, ?_, ?_, fun j hj => ?_, ?_⟩
    · rw [size_set, size_alloc, hs]; omega
    · refine ((hr.alloc _).set i _).congr fun j hj => ?_
      by_cases e : j = i
      · subst e; rw [if_pos rfl, if_pos (by omega), hs]
      · rw [if_neg e]
        by_cases e' : j < i
        · rw [if_pos e', if_pos (by omega)]
        · rw [if_neg e', if_neg (by omega)]
    · by_cases e : j = i
      · subst e
        rw [hs] at hm
        exact hm.setOther (by show G + 1 + j ≠ G; omega) _
      · exact ((hrow j (by omega)).alloc _).setOther (by show G + 1 + j ≠ G; omega) _
    · exact hk.trans ((Kq.alloc _ (by omega)).trans (Kq.set _ (Nat.le_refl _)))
  · refine .inl ⟨h3.hf (by simp [hlt]), ?_⟩
    have hie : i = n := by omega
    subst hie
    exact k _ _ (h3.sub (by simp)) ⟨hr.congr fun j hj => by rw [if_pos hj], fun j hj => hrow j hj⟩ hs hk

/-- The edges. -/
def Ed (N n : Nat) (cl : Nat → List Cl) (i j : Nat) : Prop := ∃ t, t < N ∧ ∃ c ∈ cl t, c.po = 1 ∧ i = keyH n c.ca ∧ j = keyH n c.cb
theorem la4_edges {ln cp rb ro : Nat → Nat} {pc : Nat → Option Addr} {cl : Nat → List Cl} (hn0 : 0 < n) (hn1 : n ≤ 100) (hN : N ≤ 8) (h64 : ∀ j, j < N → ln j ≤ 64) (hG : G = v.heap.size) (hS : SL N b o ln cp rb ro pc cl v) {T0 : Nat → Nat → Bool} (hT0 : Tb n G T0 u) (hs0 : G + 1 + n ≤ u.heap.size) (hk0 : Kq G v u) (hA : Fl 262 [(1, I (n : Nat)), (2, .slice (some ⟨b, o, none⟩) N cap), (8, Pt wb 0), (9, .slice (some ⟨M, 0, none⟩) N N), (11, .slice (some ⟨G, 0, none⟩) n n)] a)
    (k : ∀ a' u' T, Fl 262 [(1, I (n : Nat)), (2, .slice (some ⟨b, o, none⟩) N cap), (8, Pt wb 0), (9, .slice (some ⟨M, 0, none⟩) N N), (11, .slice (some ⟨G, 0, none⟩) n n)] a' → Tb n G T u' → G + 1 + n ≤ u'.heap.size → Kq G v u' → (∀ i j, Ed N n cl i j → T i j = true) → Q .normal a' u') : (Code.seq q4_13 (.block 2 K4_2)).wp Try.prog Q a u := by
  have H : Hid (∀ (x : Int) (w : World), Calls Try.prog 51 #[I x, I (n : Nat)] w (fun e w' => ∃ r, e = .returned r ∧ (r = I (keyH n x) ∧ w' = w))) := ⟨fun x w => (body6w x n hn0 (by omega) w).calls Try.func51 rfl⟩
  refine wp_then (p4_13 hA) fun a1 w1 h => ?_
  obtain ⟨h1, rfl⟩ := h
  unfold K4_2
  refine wp_while (t := 75) (fun c a x => ∃ i T, i ≤ N ∧ c = N - i ∧ Fl 262 [(1, I (n : Nat)), (2, .slice (some ⟨b, o, none⟩) N cap), (8, Pt wb 0), (9, .slice (some ⟨M, 0, none⟩) N N), (11, .slice (some ⟨G, 0, none⟩) n n), (13, I (i : Nat))] a ∧ Tb n G T x ∧ G + 1 + n ≤ x.heap.size ∧ Kq G v x ∧ (∀ t, t < i → ∀ c ∈ cl t, c.po = 1 → T (keyH n c.ca) (keyH n c.cb) = true)) _
    ⟨0, _, Nat.zero_le _, rfl, h1, hT0, hs0, hk0, fun t ht => by omega⟩ ?_
  clear h1 hT0 hs0 hk0 hA
  rintro c a2 x ⟨i, T1, hi, rfl, h2, hT1, hs1, hk1, hm1⟩
  refine ⟨_, p4_14 h2, ?_⟩
  rintro a3 w3 ⟨h3, rfl⟩
  by_cases hlt : i < N
  · refine .inr ⟨h3.hd (by simp [hlt]), ?_⟩
    refine wp_seq (wp_block ?_)
    unfold K4_3
    refine wp_then (p4_16 h3.tl) fun a4 w4 h => ?_
    obtain ⟨h4, rfl⟩ := h
    unfold K4_4
    refine wp_while (t := 84) (fun c a x => ∃ j T, j ≤ ln i ∧ c = ln i - j ∧ Fl 262 [(1, I (n : Nat)), (2, .slice (some ⟨b, o, none⟩) N cap), (8, Pt wb 0), (9, .slice (some ⟨M, 0, none⟩) N N), (11, .slice (some ⟨G, 0, none⟩) n n), (13, I (i : Nat)), (14, I (j : Nat))] a ∧ Tb n G T x ∧ G + 1 + n ≤ x.heap.size ∧ Kq G v x ∧ (∀ t, t < i → ∀ c ∈ cl t, c.po = 1 → T (keyH n c.ca) (keyH n c.cb) = true) ∧ (∀ (t : Nat) (c : Cl), t < j → (cl i)[t]? = some c → c.po = 1 → T (keyH n c.ca) (keyH n c.cb) = true)) _
      ⟨0, _, Nat.zero_le _, rfl, h4, hT1, hs1, hk1, hm1, fun t c ht => by omega⟩ ?_
    clear h4 h3 h2 hT1 hs1 hk1 hm1
    rintro c a5 x ⟨j, T2, hj, rfl, h5, hT2, hs2, hk2, hm2, hn2⟩
    have hS2 := hS.go (hG ▸ hk2)
    refine ⟨_, p4_17 hlt (hS2.sr i hlt) h5, ?_⟩
    rintro a6 w6 ⟨h6, rfl⟩
    by_cases hlj : j < ln i
    · refine .inr ⟨h6.hd (by simp [hlj]), ?_⟩
      refine wp_seq (wp_block ?_)
      unfold K4_5
      obtain ⟨c, hc⟩ : ∃ c, (cl i)[j]? = some c := ⟨_, List.getElem?_eq_getElem (by rw [hS.len i hlt]; exact hlj)⟩
      have hsr := hS2.sr i hlt
      rw [hS2.pq i hlt (by omega)] at hsr
      obtain ⟨d0, d1, d2, d3⟩ := hS2.sa i hlt j c hc
      refine wp_then (p4_19 hlt hsr hlj d0 d1 d2 d3 h6.tl) fun a7 w7 h => ?_
      obtain ⟨h7, hw7⟩ := h
      have hk7 : Kq (G + 1 + n) w6 w7 := hw7 ▸ Kq.alloc _ hs2
      have hc7 : ∀ (i : Nat) (y : Value), #[I c.po, I c.ca, I c.cb, I c.cc][i]? = some y → w7.cell? ⟨w6.heap.size, i, none⟩ = some y := fun i y hy => by
        rw [hw7]; exact cell_of (v := w6.alloc (.cells #[I c.po, I c.ca, I c.cb, I c.cc] 39)) (b := w6.heap.size) (by show (w6.heap.push _)[w6.heap.size]? = _; simp; exact ⟨rfl, rfl⟩) hy
      have hT7 := hT2.go hk7
      have hs7 : G + 1 + n ≤ w7.heap.size := Nat.le_trans hs2 hk7.size
      clear hw7
      refine wp_then (p4_20 (hc7 0 _ rfl) h7) fun a8 w8 h => ?_
      obtain ⟨h8, rfl⟩ := h
      have fin : ∀ {a' : Act} {w' : World} {T' : Nat → Nat → Bool}, Fl 262 [(1, I (n : Nat)), (2, .slice (some ⟨b, o, none⟩) N cap), (8, Pt wb 0), (9, .slice (some ⟨M, 0, none⟩) N N), (11, .slice (some ⟨G, 0, none⟩) n n), (13, I (i : Nat)), (14, I (j : Nat))] a' → Tb n G T' w' → G + 1 + n ≤ w'.heap.size → Kq G v w' → (∀ i k, T2 i k = true → T' i k = true) → (c.po = 1 → T' (keyH n c.ca) (keyH n c.cb) = true) →
          q4_18.wp Try.prog (fun e a x => e = .normal ∧ ∃ n', n' < ln i - j ∧ ∃ j T, j ≤ ln i ∧ n' = ln i - j ∧ Fl 262 [(1, I (n : Nat)), (2, .slice (some ⟨b, o, none⟩) N cap), (8, Pt wb 0), (9, .slice (some ⟨M, 0, none⟩) N N), (11, .slice (some ⟨G, 0, none⟩) n n), (13, I (i : Nat)), (14, I (j : Nat))] a ∧ Tb n G T x ∧ G + 1 + n ≤ x.heap.size ∧ Kq G v x ∧ (∀ t, t < i → ∀ c ∈ cl t, c.po = 1 → T (keyH n c.ca) (keyH n c.cb) = true) ∧ (∀ (t : Nat) (c : Cl), t < j → (cl i)[t]? = some c → c.po = 1 → T (keyH n c.ca) (keyH n c.cb) = true)) a' w' := by
        intro a' w' T' hA' hT' hs' hk' hmono hnew
        refine wp_last (p4_18 (by have := h64 i hlt; omega) hA') fun a9 w9 h => ?_
        obtain ⟨h9, rfl⟩ := h
        refine ⟨rfl, ln i - (j + 1), by omega, j + 1, T', by omega, rfl, h9, hT', hs', hk', fun t ht c hc hp => hmono _ _ (hm2 t ht c hc hp), fun t c' ht hc' hp => ?_⟩
        by_cases e : t = j
        · subst e
          rw [hc] at hc'
          cases hc'
          exact hnew hp
        · exact hmono _ _ (hn2 t c' (by omega) hc' hp)
      have hkv : Kq G v w8 := hk2.trans (hk7.le (by omega))
      by_cases hp : c.po = 1
      · refine wp_cond_true (h8.hd (by simp [hp])) ?_
        have g1 := keyH_lt hn0 c.ca
        have g2 := keyH_lt hn0 c.cb
        refine wp_last (wp_nrm (p4_21 (W := keyH n) H (hc7 1 _ rfl) (hc7 2 _ rfl) (by omega) (by omega) (hT7.out.cell g1) ((hT7.row _ g1).cell g2) ((hT7.row _ g1).frozen _) h8.tl)) fun a9 w9 h => ?_
        obtain ⟨h9, e1, e2, e3⟩ := h
        show Code.wp _ _ _ _ _
        refine wp_mono (fin h9 (hT7.set g1 _ _ e1) (by rw [e1, size_set]; exact hs7) (hkv.trans ⟨e2, e3, by rw [e1, size_set]; exact Nat.le_refl _, fun k hk => by rw [e1]; exact Below.heap_setCell _ _ _ _ (by show k ≠ G + 1 + _; omega)⟩) (fun i k h => by
          by_cases e : i = keyH n c.ca ∧ k = keyH n c.cb
          · rw [if_pos e]
          · rw [if_neg e]; exact h) (fun _ => by rw [if_pos ⟨rfl, rfl⟩])) fun e a w h => ?_
        obtain ⟨rfl, h⟩ := h
        exact h
      · refine wp_cond_false (h8.hf (by simp [hp])) (wp_skip ?_)
        show Code.wp _ _ _ _ _
        refine wp_mono (fin (h8.sub (by simp)) hT7 hs7 hkv (fun _ _ h => h) (fun h => absurd h hp)) fun e a w h => ?_
        obtain ⟨rfl, h⟩ := h
        exact h
    · refine .inl ⟨h6.hf (by simp [hlj]), ?_⟩
      have hje : j = ln i := by omega
      subst hje
      show Code.wp _ _ _ _ _
      refine wp_last (p4_15 (n := n) (N := N) (b := b) (o := o) (cap := cap) (M := M) (wb := wb) (G := G) (i := i) (by omega) (h6.sub (by simp))) fun a7 w7 h => ?_
      obtain ⟨h7, rfl⟩ := h
      refine ⟨N - (i + 1), by omega, i + 1, T2, by omega, rfl, h7, hT2, hs2, hk2, fun t ht c hc hp => ?_⟩
      by_cases e : t = i
      · subst e
        obtain ⟨k, hk, hkc⟩ := List.getElem_of_mem hc
        exact hn2 k c (by rw [hS.len t hlt] at hk; exact hk) (by rw [List.getElem?_eq_getElem hk, hkc]) hp
      · exact hm2 t (by omega) c hc hp
  · refine .inl ⟨h3.hf (by simp [hlt]), ?_⟩
    refine k _ _ T1 (h3.sub (by simp)) hT1 hs1 hk1 ?_
    rintro x y ⟨t, ht, c, hc, hp, rfl, rfl⟩
    exact hm1 t (by omega) c hc hp

/-- The ways. -/
theorem la4_ways {E : Nat → Nat → Prop} (hn1 : n ≤ 100) {T0 : Nat → Nat → Bool} (hT0 : Tb n G T0 u) (hs0 : G + 1 + n ≤ u.heap.size) (hk0 : Kq G v u) (hE : ∀ i j, E i j → T0 i j = true) (hA : Fl 262 [(1, I (n : Nat)), (2, .slice (some ⟨b, o, none⟩) N cap), (8, Pt wb 0), (9, .slice (some ⟨M, 0, none⟩) N N), (11, .slice (some ⟨G, 0, none⟩) n n)] a)
    (k : ∀ a' u' T, Fl 262 [(1, I (n : Nat)), (2, .slice (some ⟨b, o, none⟩) N cap), (8, Pt wb 0), (9, .slice (some ⟨M, 0, none⟩) N N), (11, .slice (some ⟨G, 0, none⟩) n n)] a' → Tb n G T u' → G + 1 + n ≤ u'.heap.size → Kq G v u' → Wr E n n T → Q .normal a' u') : (Code.seq q4_22 (.block 6 K4_6)).wp Try.prog Q a u := by
  refine wp_then (p4_22 hA) fun a1 w1 h => ?_
  obtain ⟨h1, rfl⟩ := h
  unfold K4_6
  refine wp_while (t := 111) (fun c a x => ∃ m T, m ≤ n ∧ c = n - m ∧ Fl 262 [(1, I (n : Nat)), (2, .slice (some ⟨b, o, none⟩) N cap), (8, Pt wb 0), (9, .slice (some ⟨M, 0, none⟩) N N), (11, .slice (some ⟨G, 0, none⟩) n n), (16, I (m : Nat))] a ∧ Tb n G T x ∧ G + 1 + n ≤ x.heap.size ∧ Kq G v x ∧ Wr E n m T) _
    ⟨0, _, Nat.zero_le _, rfl, h1, hT0, hs0, hk0, fun i k _ _ h => hE _ _ h.zero⟩ ?_
  clear h1 hT0 hs0 hk0 hA hE
  rintro c a2 x ⟨m, T, hm, rfl, h2, hT, hs, hk, hW⟩
  refine ⟨_, p4_23 h2, ?_⟩
  rintro a3 w3 ⟨h3, rfl⟩
  by_cases hlm : m < n
  · refine .inr ⟨h3.hd (by simp [hlm]), ?_⟩
    refine wp_seq (wp_block ?_)
    unfold K4_7
    refine wp_then (p4_25 h3.tl) fun a4 w4 h => ?_
    obtain ⟨h4, rfl⟩ := h
    unfold K4_8
    refine wp_while (t := 116) (fun c a x => ∃ i T', i ≤ n ∧ c = n - i ∧ Fl 262 [(1, I (n : Nat)), (2, .slice (some ⟨b, o, none⟩) N cap), (8, Pt wb 0), (9, .slice (some ⟨M, 0, none⟩) N N), (11, .slice (some ⟨G, 0, none⟩) n n), (16, I (m : Nat)), (17, I (i : Nat))] a ∧ Tb n G T' x ∧ G + 1 + n ≤ x.heap.size ∧ Kq G v x ∧ Wm n m T i 0 T') _
      ⟨0, _, Nat.zero_le _, rfl, h4, hT, hs, hk, Wm.start _ _ _⟩ ?_
    clear h4 h3 h2 hT hs hk
    rintro c a5 x ⟨i, T1, hi, rfl, h5, hT1, hs1, hk1, hW1⟩
    refine ⟨_, p4_26 h5, ?_⟩
    rintro a6 w6 ⟨h6, rfl⟩
    by_cases hli : i < n
    · refine .inr ⟨h6.hd (by simp [hli]), ?_⟩
      refine wp_seq (wp_block ?_)
      unfold K4_9
      refine wp_then (p4_28 h6.tl) fun a7 w7 h => ?_
      obtain ⟨h7, rfl⟩ := h
      unfold K4_10
      refine wp_while (t := 121) (fun c a x => ∃ j T', j ≤ n ∧ c = n - j ∧ Fl 262 [(1, I (n : Nat)), (2, .slice (some ⟨b, o, none⟩) N cap), (8, Pt wb 0), (9, .slice (some ⟨M, 0, none⟩) N N), (11, .slice (some ⟨G, 0, none⟩) n n), (16, I (m : Nat)), (17, I (i : Nat)), (18, I (j : Nat))] a ∧ Tb n G T' x ∧ G + 1 + n ≤ x.heap.size ∧ Kq G v x ∧ Wm n m T i j T') _
        ⟨0, _, Nat.zero_le _, rfl, h7, hT1, hs1, hk1, hW1⟩ ?_
      clear h7 h6 h5 hT1 hs1 hk1 hW1
      rintro c a8 x ⟨j, T2, hj, rfl, h8, hT2, hs2, hk2, hW2⟩
      refine ⟨_, p4_29 h8, ?_⟩
      rintro a9 w9 ⟨h9, rfl⟩
      by_cases hlj : j < n
      · refine .inr ⟨h9.hd (by simp [hlj]), ?_⟩
        refine wp_seq (wp_block ?_)
        unfold K4_11
        have fin : ∀ {a' : Act} {w' : World} {cc : Bool}, cc = (T2 i j || (T2 i m && T2 m j)) → Fl 262 [(1, I (n : Nat)), (2, .slice (some ⟨b, o, none⟩) N cap), (8, Pt wb 0), (9, .slice (some ⟨M, 0, none⟩) N N), (11, .slice (some ⟨G, 0, none⟩) n n), (16, I (m : Nat)), (17, I (i : Nat)), (18, I (j : Nat))] a' → w'.heap = (w9.setCell ⟨G + 1 + i, j, none⟩ (.bool cc)).heap → w'.os = w9.os → w'.output = w9.output →
            q4_30.wp Try.prog (fun e a x => e = .normal ∧ ∃ n', n' < n - j ∧ ∃ j T', j ≤ n ∧ n' = n - j ∧ Fl 262 [(1, I (n : Nat)), (2, .slice (some ⟨b, o, none⟩) N cap), (8, Pt wb 0), (9, .slice (some ⟨M, 0, none⟩) N N), (11, .slice (some ⟨G, 0, none⟩) n n), (16, I (m : Nat)), (17, I (i : Nat)), (18, I (j : Nat))] a ∧ Tb n G T' x ∧ G + 1 + n ≤ x.heap.size ∧ Kq G v x ∧ Wm n m T i j T') a' w' := by
          intro a' w' cc hcc hA' e1 e2 e3
          refine wp_last (p4_30 (by omega) hA') fun a10 w10 h => ?_
          obtain ⟨h10, rfl⟩ := h
          subst hcc
          exact ⟨rfl, n - (j + 1), by omega, j + 1, _, by omega, rfl, h10, hT2.set hli j _ e1, by rw [e1, size_set]; exact hs2, hk2.trans ⟨e2, e3, by rw [e1, size_set]; exact Nat.le_refl _, fun k hk => by rw [e1]; exact Below.heap_setCell _ _ _ _ (by show k ≠ G + 1 + i; omega)⟩, hW2.set hlm hli hlj⟩
        cases hx : T2 i j with
        | true =>
          refine wp_last (wp_nrm (p4_31t hlm hli hlj hT2 hx h9.tl)) fun a10 w10 h => ?_
          obtain ⟨h10, e1, e2, e3⟩ := h
          show Code.wp _ _ _ _ _
          refine wp_mono (fin (by rw [hx]; rfl) h10 e1 e2 e3) fun e a w h => ?_
          obtain ⟨rfl, h⟩ := h
          exact h
        | false =>
          cases hy : T2 i m with
          | false =>
            refine wp_last (wp_nrm (p4_31f hlm hli hlj hT2 hx hy h9.tl)) fun a10 w10 h => ?_
            obtain ⟨h10, e1, e2, e3⟩ := h
            show Code.wp _ _ _ _ _
            refine wp_mono (fin (by rw [hx, hy]; rfl) h10 e1 e2 e3) fun e a w h => ?_
            obtain ⟨rfl, h⟩ := h
            exact h
          | true =>
            refine wp_last (wp_nrm (p4_31g hlm hli hlj hT2 hx hy h9.tl)) fun a10 w10 h => ?_
            obtain ⟨h10, e1, e2, e3⟩ := h
            show Code.wp _ _ _ _ _
            refine wp_mono (fin (by rw [hx, hy]; simp) h10 e1 e2 e3) fun e a w h => ?_
            obtain ⟨rfl, h⟩ := h
            exact h
      · refine .inl ⟨h9.hf (by simp [hlj]), ?_⟩
        have hje : j = n := by omega
        subst hje
        show Code.wp _ _ _ _ _
        refine wp_last (p4_27 (n := j) (N := N) (b := b) (o := o) (cap := cap) (M := M) (wb := wb) (G := G) (m := m) (i := i) (by omega) (h9.sub (by simp))) fun a10 w10 h => ?_
        obtain ⟨h10, rfl⟩ := h
        exact ⟨j - (i + 1), by omega, i + 1, T2, by omega, rfl, h10, hT2, hs2, hk2, hW2.next⟩
    · refine .inl ⟨h6.hf (by simp [hli]), ?_⟩
      have hie : i = n := by omega
      subst hie
      show Code.wp _ _ _ _ _
      refine wp_last (p4_24 (n := i) (N := N) (b := b) (o := o) (cap := cap) (M := M) (wb := wb) (G := G) (m := m) (by omega) (h6.sub (by simp))) fun a7 w7 h => ?_
      obtain ⟨h7, rfl⟩ := h
      exact ⟨i - (m + 1), by omega, m + 1, T1, by omega, rfl, h7, hT1, hs1, hk1, hW1.done hlm hW⟩
  · refine .inl ⟨h3.hf (by simp [hlm]), ?_⟩
    have hme : m = n := by omega
    subst hme
    exact k _ _ T (h3.sub (by simp)) hT hs hk hW

/-- The answers. -/
theorem la4_ans {ln cp rb ro A : Nat → Nat} {pc : Nat → Option Addr} {cl : Nat → List Cl} {l : Nat → Ph} (hn0 : 0 < n) (hn1 : n ≤ 100) (hN : N ≤ 8) (h64 : ∀ j, j < N → ln j ≤ 64) (hG : G = v.heap.size) (hS : SL N b o ln cp rb ro pc cl v) (hL : AL N M A ln l v) {T : Nat → Nat → Bool} (hT0 : Tb n G T u) (hs0 : G + 1 + n ≤ u.heap.size) (hk0 : Kq G v u)
    (hans : ∀ i, i < N → ∀ (k : Nat) (q : Int × Int) (c : Cl), (l i).ans[k]? = some q → (cl i)[k]? = some c → q.2 ≠ 0 → T (keyH n c.ca) (keyH n c.ca) = true) (hA : Fl 262 [(1, I (n : Nat)), (2, .slice (some ⟨b, o, none⟩) N cap), (8, Pt wb 0), (9, .slice (some ⟨M, 0, none⟩) N N), (11, .slice (some ⟨G, 0, none⟩) n n)] a)
    (k : ∀ a' u', Fl 262 [(1, I (n : Nat)), (2, .slice (some ⟨b, o, none⟩) N cap), (8, Pt wb 0), (9, .slice (some ⟨M, 0, none⟩) N N), (11, .slice (some ⟨G, 0, none⟩) n n)] a' → G + 1 + n ≤ u'.heap.size → Kq G v u' → Q .normal a' u') : (Code.seq q4_32 (.block 12 K4_12)).wp Try.prog Q a u := by
  refine wp_then (p4_32 hA) fun a1 w1 h => ?_
  obtain ⟨h1, rfl⟩ := h
  unfold K4_12
  refine wp_while (t := 158) (fun c a x => ∃ i, i ≤ N ∧ c = N - i ∧ Fl 262 [(1, I (n : Nat)), (2, .slice (some ⟨b, o, none⟩) N cap), (8, Pt wb 0), (9, .slice (some ⟨M, 0, none⟩) N N), (11, .slice (some ⟨G, 0, none⟩) n n), (19, I (i : Nat))] a ∧ Tb n G T x ∧ G + 1 + n ≤ x.heap.size ∧ Kq G v x) _
    ⟨0, Nat.zero_le _, rfl, h1, hT0, hs0, hk0⟩ ?_
  clear h1 hT0 hs0 hk0 hA
  rintro c a2 x ⟨i, hi, rfl, h2, hT1, hs1, hk1⟩
  refine ⟨_, p4_33 h2, ?_⟩
  rintro a3 w3 ⟨h3, rfl⟩
  by_cases hlt : i < N
  · refine .inr ⟨h3.hd (by simp [hlt]), ?_⟩
    refine wp_seq (wp_block ?_)
    unfold K4_13
    have hS1 := hS.go (hG ▸ hk1)
    have hL1 := hL.go (hG ▸ hk1)
    refine wp_seq ?_
    refine wp_then (wp_nrm (p4_35 hlt (hS1.sr i hlt) (hL1.ar i hlt) h3.tl)) fun a4 w4 h => ?_
    obtain ⟨h4, e1, e2, e3⟩ := h
    refine wp_cond_false (h4.hf rfl) (wp_skip ?_)
    show Code.wp _ _ _ _ _
    have kk : Kq G w3 w4 := Kq.same e1 e2 e3
    have hT4 := hT1.same e1
    refine wp_then (p4_37 h4.tl) fun a5 w5 h => ?_
    obtain ⟨h5, rfl⟩ := h
    unfold K4_14
    refine wp_while (t := 178) (fun c a x => ∃ j, j ≤ ln i ∧ c = ln i - j ∧ Fl 262 [(1, I (n : Nat)), (2, .slice (some ⟨b, o, none⟩) N cap), (8, Pt wb 0), (9, .slice (some ⟨M, 0, none⟩) N N), (11, .slice (some ⟨G, 0, none⟩) n n), (19, I (i : Nat)), (20, I (j : Nat))] a ∧ Tb n G T x ∧ G + 1 + n ≤ x.heap.size ∧ Kq G v x) _
      ⟨0, Nat.zero_le _, rfl, h5, hT4, by rw [e1]; exact hs1, hk1.trans kk⟩ ?_
    clear h5 h4 h3 h2 hT1 hs1 hk1 hT4 kk hS1 hL1 e1 e2 e3
    rintro c a6 x ⟨j, hj, rfl, h6, hT2, hs2, hk2⟩
    have hS2 := hS.go (hG ▸ hk2)
    have hL2 := hL.go (hG ▸ hk2)
    refine ⟨_, p4_38 hlt (hS2.sr i hlt) h6, ?_⟩
    rintro a7 w7 ⟨h7, rfl⟩
    by_cases hlj : j < ln i
    · refine .inr ⟨h7.hd (by simp [hlj]), ?_⟩
      refine wp_seq (wp_block ?_)
      unfold K4_15
      obtain ⟨c, hc⟩ : ∃ c, (cl i)[j]? = some c := ⟨_, List.getElem?_eq_getElem (by rw [hS.len i hlt]; exact hlj)⟩
      obtain ⟨q, hq⟩ : ∃ q, (l i).ans[j]? = some q := ⟨_, List.getElem?_eq_getElem (by rw [hL.al i hlt]; exact hlj)⟩
      have hsr := hS2.sr i hlt
      rw [hS2.pq i hlt (by omega)] at hsr
      obtain ⟨d0, d1, d2, d3⟩ := hS2.sa i hlt j c hc
      refine wp_then (p4_40 hn0 hn1 hlt hsr hlj d1 h7.tl) fun a8 w8 h => ?_
      obtain ⟨h8, rfl⟩ := h
      have step : ∀ {a' : Act}, Fl 262 [(209, .bool false), (1, I (n : Nat)), (2, .slice (some ⟨b, o, none⟩) N cap), (8, Pt wb 0), (9, .slice (some ⟨M, 0, none⟩) N N), (11, .slice (some ⟨G, 0, none⟩) n n), (19, I (i : Nat)), (20, I (j : Nat))] a' → ∀ (Q1 : Exit → Act → World → Prop), (∀ a9, Fl 262 [(1, I (n : Nat)), (2, .slice (some ⟨b, o, none⟩) N cap), (8, Pt wb 0), (9, .slice (some ⟨M, 0, none⟩) N N), (11, .slice (some ⟨G, 0, none⟩) n n), (19, I (i : Nat)), (20, I (j + 1 : Nat))] a9 → Q1 .normal a9 w8) → q4_39.wp Try.prog Q1 a' w8 := by
        intro a' hA' Q1 hQ
        refine wp_last (p4_39 (by have := h64 i hlt; omega) hA'.tl) fun a9 w9 h => ?_
        obtain ⟨h9, rfl⟩ := h
        exact hQ a9 h9
      by_cases hy : q.2 = 0
      · refine wp_then (p4_41z hlt (hL2.ar i hlt) hlj (hL2.an i hlt j q hq).2 hy h8) fun a9 w9 h => ?_
        obtain ⟨h9, rfl⟩ := h
        refine wp_cond_false (h9.hf rfl) (wp_skip ?_)
        show Code.wp _ _ _ _ _
        exact step h9 _ fun a10 h10 => ⟨ln i - (j + 1), by omega, j + 1, by omega, rfl, h10, hT2, hs2, hk2⟩
      · refine wp_then (p4_41y hlt (hL2.ar i hlt) hlj (hL2.an i hlt j q hq).2 hy (keyH_lt hn0 c.ca) hT2 (hans i hlt j q c hq hc hy) h8) fun a9 w9 h => ?_
        obtain ⟨h9, rfl⟩ := h
        refine wp_cond_false (h9.hf rfl) (wp_skip ?_)
        show Code.wp _ _ _ _ _
        exact step h9 _ fun a10 h10 => ⟨ln i - (j + 1), by omega, j + 1, by omega, rfl, h10, hT2, hs2, hk2⟩
    · refine .inl ⟨h7.hf (by simp [hlj]), ?_⟩
      show Code.wp _ _ _ _ _
      refine wp_last (p4_34 (n := n) (N := N) (b := b) (o := o) (cap := cap) (M := M) (wb := wb) (G := G) (i := i) (by omega) (h7.sub (by simp))) fun a8 w8 h => ?_
      obtain ⟨h8, rfl⟩ := h
      exact ⟨N - (i + 1), by omega, i + 1, by omega, rfl, h8, hT2, hs2, hk2⟩
  · refine .inl ⟨h3.hf (by simp [hlt]), ?_⟩
    exact k _ _ (h3.sub (by simp)) hs1 hk1
end
end Go.Proofs.Ytfjjoohflcchnaa.Gen
