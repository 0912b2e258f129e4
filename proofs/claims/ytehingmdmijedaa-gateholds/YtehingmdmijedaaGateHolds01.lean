/- GateHolds: for every schedule and all scripts, nobody enters behind the first Shut's step, one Shut at most is the first, nobody is in when a Shut answers, and the answers say how many are in; no conditions. Part 1 of 32. (Joined, by program, of: Lift1, Lift2, Lift3, Lift4, Lift5, Lift6, Lift7, Lift9, Lift8, Lift10, Lift11, Lift12, Lift13, Lift14, Lift15, Lift16, Lift17, Lift18, Lift19, Lift20, Lift21, Lift22, Fine, Tw, Note.) -/
import GoSem.Step
import Derived.Control
import Derived.Conc.Beside
import Derived.Conc.Own3
import Derived.Conc.CompanyDraw
import Derived.Conc.TokenAlone
import Derived.Below
import Derived.Conc.Own5
import Derived.Conc.Walk
import Derived.Conc.AtomicLaws
import Derived.Conc.TokenWalk
import Derived.Test.YtehingmdmijedaaProg
import Derived.KernelRfl
import Derived.WalkKit
import Derived.WalkSpells
import Derived.Deep.AppendLies
import Derived.Deep.RegionHeld3
import Derived.Deep.RegionLaw
import Derived.BigRegion

/- One operation of the model's yields the same, and lists the same, on every tape that answers it alike. -/
set_option linter.unusedSimpArgs false
namespace Go.Lift
open Go.Conc

/-- A row of which one cell is kept from being written, without that mark. -/
def zap : Option Nat → Obj → Obj
  | some _, .cells c e _ => .cells c e (0, 0)
  | _, o => o

/-- The two worlds part in their tapes, and in this: of some blocks (z tells which, and which cell) the first one keeps a cell from being written, by its mark of frozen cells. -/
structure Rel (z : Nat → Option Nat) (v w : World) : Prop where
  heap : ∀ r, w.heap[r]? = (v.heap[r]?).map (zap (z r))
  kept : ∀ r n c e f, z r = some n → v.heap[r]? = some (.cells c e f) → f = (n, n + 1)
  low : ∀ r n, z r = some n → r < v.heap.size
  os : w.os = v.os
  output : w.output = v.output

/-- No cell is kept. -/
abbrev zn : Nat → Option Nat := fun _ => none

section
variable {z : Nat → Option Nat} {v w : World}
end

/-- What a step may do to memory: nothing is lost; where 'wr' is false nothing that is there is changed. -/
structure Keeps (wr : Bool) (v v' : World) : Prop where
  size : v.heap.size ≤ v'.heap.size
  old : wr = false → ∀ (r : Nat) (o : Obj), v.heap[r]? = some o → v'.heap[r]? = some o
  objs : ∀ (r : Nat) (o : Obj), v.heap[r]? = some o → (∀ c e f, o ≠ .cells c e f) → v'.heap[r]? = some o
  os : v'.os = v.os
  output : v'.output = v.output

/-- An entry that a step lists: a touch of a cell (a read, where 'wr' is false); a look at an object; a mark that means nothing. -/
def Okay (wr : Bool) (e : Event) : Prop :=
  (∃ a, e.loc = .cell a ∧ (wr = false → e.write = false)) ∨ (∃ r, e.loc = .obj r ∧ e.write = false) ∨ e.loc = .mark .noRoom ∨ ∃ f, e.loc = .mark (.extern f)

/-- Halts that a plain operation can come to. -/
def Soft (h : Halt) : Prop := (∃ x, h = .panic x) ∨ (∃ s, h = .stuck s) ∨ ∃ u, h = .unsupported u

/-- It comes to no end but a halt. -/
def dead (P : Program) {α : Type} : Sem α → Prop
  | .pure _ => False
  | .load _ _ k => ∀ v, dead P (k v)
  | .store _ _ _ k => dead P k
  | .new _ k => ∀ r, dead P (k r)
  | .shape _ k => ∀ s, dead P (k s)
  | .freeze _ _ k => dead P k
  | .frozen _ k => ∀ b, dead P (k b)
  | .getObj _ k => ∀ o, dead P (k o)
  | .setObj _ _ k => dead P k
  | .choose _ k => ∀ n, dead P (k n)
  | .sys _ _ => False
  | .program k => dead P (k P)
  | .mark _ k => dead P k
  | .halt _ => True

/-- What is listed is no write of a kept cell. -/
def Spares (z : Nat → Option Nat) (w' : World) (e : Event) : Prop := e.loc.low w'.heap.size ∧ ∀ a, e.loc = .cell a → e.write = true → z a.block ≠ some a.off
/-- Such an operation asks nothing but memory and the tape, writes only where 'wr' says so, and lists no word of deafness. -/
def calm (P : Program) (wr : Bool) {α : Type} : Sem α → Prop
  | .pure _ => True
  | .load _ _ k => ∀ v, calm P wr (k v)
  | .store _ _ _ k => wr = true ∧ calm P wr k
  | .new _ k => ∀ r, calm P wr (k r)
  | .shape _ k => ∀ s, calm P wr (k s)
  | .freeze _ _ _ => False
  | .frozen _ k => (∀ b, calm P wr (k b)) ∧ dead P (k true)
  | .getObj _ k => ∀ o, calm P wr (k o)
  | .setObj _ _ _ => False
  | .choose _ k => ∀ n, calm P wr (k n)
  | .sys _ _ => False
  | .program k => calm P wr (k P)
  | .mark m k => (m = .noRoom ∨ ∃ f, m = .extern f) ∧ calm P wr k
  | .halt h => Soft h

/-- The tapes give the same answers to what is asked between. -/
def Same (v v' w : World) : Prop := ∀ i, v.drawn + i < v'.drawn → v.tape (v.drawn + i) = w.tape (w.drawn + i)

/-- What comes of an operation, in the two worlds. -/
structure Out (z : Nat → Option Nat) (wr : Bool) (v v' w w' : World) : Prop where
  rel : Rel z v' w'
  tape : v'.tape = v.tape
  tape' : w'.tape = w.tape
  le : v.drawn ≤ v'.drawn
  drawn : w'.drawn = w.drawn + (v'.drawn - v.drawn)
  keeps : Keeps wr v v'
  still : ∀ r n, z r = some n → v'.cell? ⟨r, n, none⟩ = v.cell? ⟨r, n, none⟩

end Go.Lift

/- A step of a goroutine that runs plain code (no communication, no go statement, no deferred call) is the same whoever called it and whatever stands behind; or it leads nowhere. -/
namespace Go.Lift
open Go.Conc

/-! ### Plain code -/
section
variable (P : Program) (wr : Bool) (L : FuncId → Prop)

def fineOp (o : Oper) : Prop := ∀ a : Act, calm P wr (execOp a.eval o) ∧
  ∀ w x w', (execOp a.eval o).run P w = .ok x w' → (∃ v, x = .value v) ∨ x = .skip ∨ ∃ f args, x = .enter f args ∧ L f

def fineCode : Code → Prop
  | .skip | .ret | .label _ | .exit _ => True
  | .seq a b => fineCode a ∧ fineCode b
  | .cond _ a b => fineCode a ∧ fineCode b
  | .block _ c => fineCode c
  | .loop c => fineCode c
  | .region _ ops _ => ∀ o ∈ ops, fineOp P wr L o
  | _ => False

def fineItem : Item → Prop
  | .code c => fineCode P wr L c
  | .inBlock _ => True
  | .inLoop c => fineCode P wr L c
  | .inRegion ops _ => ∀ o ∈ ops, fineOp P wr L o
  | _ => False

/-- A function of plain code. -/
def fineFn (f : FuncId) : Prop := ∃ fn c, P.funcs[f]? = some fn ∧ fn.body = some c ∧ fineCode P wr L c ∧ ∀ tmps, calm P wr (results fn tmps)
end

/-- A frame that runs, or is on its way out; what stands behind it is said apart. -/
structure F where
  b : Frame
  a : Act
  todo : List Item
  ret : Bool

def F.fr (f : F) (k : List Item) : Frame := if f.ret then { f.b.at f.a (f.todo ++ k) with mode := .returning } else f.b.at f.a (f.todo ++ k)

structure fineF (P : Program) (wr : Bool) (L : FuncId → Prop) (f : F) : Prop where
  items : ∀ x ∈ f.todo, fineItem P wr L x
  defers : f.a.defers = []
  kind : f.b.kind ≠ .early

/-- A step of frame f's, to T: in world v, and in every world like it. -/
structure Step (P : Program) (wr : Bool) (f : F) (T : List Item → List Frame → Goroutine) (v v' : World) (es : Array Event) : Prop where
  here : ∀ k cs main, stepG P main (G (f.fr k) cs) v = .go (T k cs) v' es
  okay : ∀ e ∈ es, Okay wr e
  tape : v'.tape = v.tape
  le : v.drawn ≤ v'.drawn
  like : ∀ z w, Rel z v w → Same v v' w → ∃ w', Out z wr v v' w w' ∧ (∀ e ∈ es, Spares z w' e) ∧ ∀ k cs main, stepG P main (G (f.fr k) cs) w = .go (T k cs) w' es

/-- It leads nowhere. -/
def Doomed (cs : List Frame) (s : GStep) : Prop := (∃ o w es, s = .ended o w es) ∨ ∃ (fr : Frame) (chain : List PanicEntry) (w : World) (es : Array Event), s = .go (G { fr with mode := .panicking chain } cs) w es ∧ fr.defers = []

section
variable {P : Program} {wr : Bool} {L : FuncId → Prop} {f : F} {v : World}

end
end Go.Lift

/- A piece of plain code that, alone, comes to its end whatever the tape, comes to it in company, ahead of each of whose steps the others may have drawn from the tape. -/
namespace Go.Lift
open Go.Conc

/-- Frames above a base frame, the innermost first. -/
structure St where
  ups : List F
  base : F

def St.emb : St → List Item → List Frame → Goroutine
  | ⟨[], b⟩, k, cs => G (b.fr k) cs
  | ⟨u :: us, b⟩, k, cs => G (u.fr []) (us.map (·.fr []) ++ b.fr k :: cs)

/-- It waits for what it called. -/
def waits (f : F) : Prop := f.ret = false ∧ ∃ ops i rest more, f.todo = .inRegion ops (i :: rest) :: more

structure fineSt (P : Program) (wr : Bool) (L : FuncId → Prop) (b : Frame) (s : St) : Prop where
  base : fineF P wr L s.base
  eb : s.base.b = b
  ups : ∀ u ∈ s.ups, fineF P wr L u ∧ u.b.kind = .normal ∧ L u.b.fn
  wait : ∀ x ∈ (s.ups ++ [s.base]).drop 1, waits x

def Done (s : St) : Prop := s.ups = [] ∧ (s.base.ret = true ∨ s.base.todo = [])

structure StepS (P : Program) (wr : Bool) (s s' : St) (v v' : World) (es : Array Event) : Prop where
  here : ∀ k cs main, stepG P main (s.emb k cs) v = .go (s'.emb k cs) v' es
  okay : ∀ e ∈ es, Okay wr e
  tape : v'.tape = v.tape
  le : v.drawn ≤ v'.drawn
  like : ∀ z w, Rel z v w → Same v v' w → ∃ w', Out z wr v v' w w' ∧ (∀ e ∈ es, Spares z w' e) ∧ ∀ k cs main, stepG P main (s.emb k cs) w = .go (s'.emb k cs) w' es

/-- A frame that waits, handed its value. -/
def F.got (f : F) (x : Value) : F :=
  match f.todo with
  | .inRegion ops (i :: rest) :: more => ⟨f.b, f.a.put ((ops[i]?).bind (·.dst)) x, .inRegion ops rest :: more, f.ret⟩
  | _ => f

/-- The frame below all in a run alone: whoever comes there is stuck. -/
def last : Frame := { (default : Frame) with todo := [.code (.refuse "")], defers := [{ target := .nil, args := #[] }], mode := .run, kind := .normal, roundOf := none }
def tail : List Item := [.code (.refuse "")]
/-- The machine in which this goroutine is alone. -/
def aloneM (g : Goroutine) (w : World) : Machine := lone g.frame g.callers w

/-! ### One step of a stack -/
section
variable {P : Program} {wr : Bool} {L : FuncId → Prop} {b : Frame} {v : World}

/-- It leads nowhere, alone. -/
def Lost (P : Program) (g : Goroutine) (v : World) : Prop := (∃ o w, step P (aloneM g v) = .ended o w) ∨
  ∃ (us : List Frame) (fr : Frame) (chain : List PanicEntry) (w : World), step P (aloneM g v) = .next (lone { fr with mode := .panicking chain } (us ++ [last]) w) ∧ fr.defers = [] ∧ ∀ u ∈ us, u.defers = []

end

end Go.Lift

/- From a run alone, whatever the tape, to a walk in company: the walk that a goroutine takes while the others only draw. -/
namespace Go.Lift
open Go.Conc

/-- A goroutine is on its way to a stop; ahead of each step the others may have drawn. No number of steps is told. -/
def GoesI (P : Program) (main : Bool) (D : World → World → Array Event → Prop) (Stop : Goroutine → World → Prop) (g : Goroutine) (w : World) : Prop :=
  ∀ Q : Goroutine → World → Prop, (∀ g w, (∀ d, Stop g (w.at d)) → Q g w) →
    (∀ g w, g.status = .running → ∀ (g' : Nat → Goroutine) (w' : Nat → World) (es : Nat → Array Event), (∀ d, stepG P main g (w.at d) = .go (g' d) (w' d) (es d)) → (∀ d, D (w.at d) (w' d) (es d)) → (∀ d, Q (g' d) (w' d)) → Q g w) → Q g w

def onTape (w : World) (τ : Nat → Question → Nat) (d : Nat) : World := { w with tape := τ, drawn := d }

/-- Alone, it has come to its end: it is behind the code, or returns. -/
def Arr (b : Frame) (Q : Exit → Act → World → Prop) (m : Machine) : Prop :=
  (∃ a v, m = lone (b.at a tail) [last] v ∧ Q .normal a v) ∨ ∃ (fr : Frame) (v : World), m = lone fr [last] v ∧ fr.mode = .returning ∧ Q .ret ⟨fr.tmps, fr.defers⟩ v

def exitOf (s : St) : Exit := if s.base.ret then .ret else .normal

section
variable {P : Program} {wr : Bool} {L : FuncId → Prop} {b : Frame} {Q : Exit → Act → World → Prop}

end

section
variable {P : Program} {z : Nat → Option Nat} {wr : Bool} {L : FuncId → Prop} {b : Frame} {Q : Exit → Act → World → Prop} {D : World → World → Array Event → Prop} {I : World → Prop} {main : Bool} {k : List Item} {cs : List Frame}

/-- Alone it comes to its end, on every tape that begins so. -/
def Phi (P : Program) (b : Frame) (Q : Exit → Act → World → Prop) (s : St) (v : World) (c : Nat) (π : Nat → Question → Nat) : Prop :=
  ∀ τ, (∀ j, j < c → τ j = π j) → ∃ n m, runN P n (aloneM (s.emb tail [last]) (onTape v τ c)) = .next m ∧ Arr b Q m

/-- In company, it has come to its end. -/
def Came (z : Nat → Option Nat) (b : Frame) (Q : Exit → Act → World → Prop) (I : World → Prop) (k : List Item) (cs : List Frame) (g : Goroutine) (w : World) : Prop :=
  ∃ s v, g = St.emb s k cs ∧ Done s ∧ s.base.b = b ∧ s.base.a.defers = [] ∧ Rel z v w ∧ I v ∧ Q (exitOf s) s.base.a v

structure Pt where
  s : St
  v : World
  w : World
  c : Nat
  π : Nat → Question → Nat

structure Good (P : Program) (z : Nat → Option Nat) (wr : Bool) (L : FuncId → Prop) (b : Frame) (Q : Exit → Act → World → Prop) (D : World → World → Array Event → Prop) (I : World → Prop) (main : Bool) (k : List Item) (cs : List Frame) (x : Pt) : Prop where
  fine : fineSt P wr L b x.s
  rel : Rel z x.v x.w
  inv : I x.v
  phi : Phi P b Q x.s x.v x.c x.π
  not : ¬ GoesI P main D (Came z b Q I k cs) (x.s.emb k cs) x.w

structure Link (P : Program) (x y : Pt) : Prop where
  le : x.c ≤ y.c
  pre : ∀ j, j < x.c → y.π j = x.π j
  step : ∀ τ, (∀ j, j < y.c → τ j = y.π j) → step P (aloneM (x.s.emb tail [last]) (onTape x.v τ x.c)) = .next (aloneM (y.s.emb tail [last]) (onTape y.v τ y.c))

end

end Go.Lift

/- Which operations of the model's are plain: they ask memory and the tape alone, and list no word of deafness. -/
namespace Go.Lift
open Go.Conc

section
variable {P : Program} {wr : Bool} {α β : Type}

end
end Go.Lift

/- Which operations of the model's are plain: address, slice, arithmetic, comparison. -/
set_option linter.unusedVariables false
namespace Go.Lift
open Go.Conc
section
variable {P : Program} {wr : Bool} {α β : Type}
end
end Go.Lift

/- Comparison is a plain operation of the model's. -/
set_option linter.unusedVariables false
namespace Go.Lift
open Go.Conc
section
variable {P : Program} {wr : Bool} {α β : Type}
/-- A type whose values are compared without a look at memory's marks. -/
def flatT (P : Program) (t : TypeId) : Bool :=
  match P.underlying t with
  | some .bool | some (.int _) | some (.float _) | some (.complex _) | some .string | some (.chan ..) | some (.slice _) | some (.map ..) | some (.func ..) => true
  | _ => false
def isPtr (P : Program) (t : TypeId) : Bool :=
  match P.underlying t with
  | some (.pointer _) => true
  | _ => false
end
end Go.Lift

/- Arithmetic and comparison are plain operations of the model's. -/
set_option linter.unusedVariables false
namespace Go.Lift
open Go.Conc
section
variable {P : Program} {wr : Bool} {α β : Type}
def isNil : Operand → Bool
  | .const (.pointer none) => true
  | _ => false
/-- A comparison of pointers is with nil alone. -/
def eqOk (P : Program) (op : BinOp) (t : TypeId) (x y : Operand) : Bool :=
  match op with
  | .eql | .neq => flatT P t || (isPtr P t && (isNil x || isNil y))
  | _ => true
end
end Go.Lift

/- 'append' is a plain operation of the model's, where writing is let by. -/
set_option linter.unusedVariables false
namespace Go.Lift
section
variable {P : Program} {wr : Bool}
/-- As 'calm', but that it may ask whether a cell is frozen. -/
def calm0 (P : Program) (wr : Bool) {α : Type} : Sem α → Prop
  | .pure _ => True
  | .load _ _ k => ∀ v, calm0 P wr (k v)
  | .store _ _ _ k => wr = true ∧ calm0 P wr k
  | .new _ k => ∀ r, calm0 P wr (k r)
  | .shape _ k => ∀ s, calm0 P wr (k s)
  | .freeze _ _ _ => False
  | .frozen _ k => ∀ b, calm0 P wr (k b)
  | .getObj _ k => ∀ o, calm0 P wr (k o)
  | .setObj _ _ _ => False
  | .choose _ k => ∀ n, calm0 P wr (k n)
  | .sys _ _ => False
  | .program k => calm0 P wr (k P)
  | .mark m k => (m = .noRoom ∨ ∃ f, m = .extern f) ∧ calm0 P wr k
  | .halt h => Soft h
end
end Go.Lift

/- An operation of one of these kinds is plain, whatever its operands hold. -/
namespace Go.Lift
open Go.Conc
section
variable {P : Program} {wr : Bool} {L : FuncId → Prop}

/-- These kinds of operation are plain. -/
def plainOp (P : Program) (wr : Bool) : Op → Bool
  | .move _ | .assign _ | .alloc _ | .box .. | .build .. | .buildSlice .. | .load .. | .unOp .. | .makeFunc .. | .makeChan .. | .makeSlice .. | .slice .. | .fieldAddr .. | .field .. | .indexAddr .. | .index .. | .extract .. => true
  | .binOp op t x y _ => eqOk P op t x y
  | .store .. => wr
  | .nilCheck _ | .pick .. => true
  | .call { callee := .builtin .len, .. } | .call { callee := .builtin .cap, .. } => true
  | .call { callee := .builtin .copy, .. } | .call { callee := .builtin .append, .. } => wr
  | _ => false

end
end Go.Lift

/- A lone walk of a piece of plain code holds in company. -/
namespace Go.Lift
open Go.Conc
section
variable {P : Program} {z : Nat → Option Nat} {wr : Bool} {L : FuncId → Prop} {D : World → World → Array Event → Prop} {I : World → Prop} {main : Bool} {b : Frame} {k : List Item} {cs : List Frame}

end
end Go.Lift

/- The ring of the token may know more still places, and the holder's walk, of which no number of steps is told, is carried out by the machine on whatever tape. -/
namespace Go.Lift
open Go.Conc
open Go.ConcN (sumTo upd sumTo_upd upd_ne upd_same)

section
variable {P : Program} {K K' : World → Prop} {Still Still' : Loc → Prop} {B B' : Nat} {Mem : Nat → Prop} {Inb : Nat → Option Seat} {h : Nat} {T : Trace} {gs : Array Goroutine} {w : World} {q : Nat → Nat}

end
end Go.Lift

/- The guarantees under which a lone walk is lifted: while others sit nothing that is there is changed; while nobody sits anything goes but words of deafness. -/
namespace Go.Lift
open Go.Conc

end Go.Lift

/- Whether a function is plain is asked of its text by a Bool. -/
namespace Go.Lift
open Go.Conc
section
variable {P : Program} {wr : Bool} {L : FuncId → Prop}

/-- A call, by name, of one of these functions. -/
def plainCall (fs : List FuncId) : Op → Bool
  | .call { callee := .value (.func f), .. } => fs.contains f
  | _ => false

def plainCode (P : Program) (wr : Bool) (fs : List FuncId) : Code → Bool
  | .skip | .ret | .label _ | .exit _ => true
  | .seq a b => plainCode P wr fs a && plainCode P wr fs b
  | .cond _ a b => plainCode P wr fs a && plainCode P wr fs b
  | .block _ c => plainCode P wr fs c
  | .loop c => plainCode P wr fs c
  | .region _ ops _ => ops.all fun o => plainOp P wr o.op || plainCall fs o.op
  | _ => false

/-- What is asked of each function that is called. -/
def Callable (P : Program) (L : FuncId → Prop) (f : FuncId) : Prop := L f ∧ ∃ fn, P.funcs[f]? = some fn ∧ (fn.name == "runtime.NumGoroutine") = false ∧ fn.body.isNone = false

end
end Go.Lift

/- Rules for code that waits, step by step: control, an operation that yields, a call that is entered, a return; a plain piece by its lone walk. -/
namespace Go.Lift
open Go.Conc
section
variable {P : Program} {main : Bool} {D : World → World → Array Event → Prop} {Stop : Goroutine → World → Prop} {b : Frame} {a : Act} {k : List Item} {cs : List Frame} {w : World}

end
end Go.Lift

/- A region that asks the tape for its order, whose first n operations are quiet and all come ahead of the one that waits: whatever the order, they leave one state; then that one comes up. -/
namespace Go.Lift
open Go.Conc

/-- What is listed is closed under what comes ahead. -/
def Closed (md : Region.Mode) (ops : Array Oper) (listed : Array Bool) : Prop :=
  ∀ (s : Nat) (o : Oper), ops[s]? = some o → listed.getD s false = true → ∀ e ∈ o.after.toList, Region.binds md e = true → listed.getD e.on false = true

/-- Each of the first n comes ahead of a later one, of those or of number n itself. -/
def leadsOn (md : Region.Mode) (ops : Array Oper) (n : Nat) : Bool :=
  (List.range n).all fun q => (List.range (n + 1)).any fun s => decide (q < s) && ((ops[s]?).map fun o => o.after.toList.any fun e => Region.binds md e && e.on == q).getD false

/-- What comes ahead of an operation stands ahead of it in the text; what stands behind number n waits for one from n on. -/
def inText (md : Region.Mode) (ops : Array Oper) (n : Nat) : Bool :=
  (List.range ops.size).all fun i => ((ops[i]?).map fun o => (o.after.toList.all fun e => decide (e.on < i)) && (decide (i ≤ n) || o.after.toList.any fun e => Region.binds md e && decide (n ≤ e.on))).getD false

/-- The temporaries behind those of the first n that are listed. -/
structure Agr (ops : Array Oper) (n : Nat) (val : Nat → Value) (a0 : Act) (listed : Array Bool) (a : Act) : Prop where
  defers : a.defers = a0.defers
  size : a.tmps.size = a0.tmps.size
  done : ∀ (j : Nat) (o : Oper) (t : Tmp), j < n → ops[j]? = some o → listed.getD j false = true → o.dst = some t → a.tmps[t]? = some (val j)
  else_ : ∀ t : Tmp, (∀ (j : Nat) (o : Oper), j < n → ops[j]? = some o → listed.getD j false = true → o.dst ≠ some t) → a.tmps[t]? = a0.tmps[t]?

section
variable {ops : Array Oper} {n : Nat} {val : Nat → Value} {a0 : Act}

end

/-- How many of the first n are not listed. -/
def unl (l : Array Bool) : Nat → Nat
  | 0 => 0
  | n + 1 => unl l n + if l.getD n false = true then 0 else 1
def listedN (m n : Nat) : Array Bool := (Array.range m).map fun j => decide (j < n)
section
variable {P : Program} {main : Bool} {D : World → World → Array Event → Prop} {Stop : Goroutine → World → Prop} {b : Frame} {k : List Item} {cs : List Frame}
variable {md : Region.Mode} {ops : Array Oper} {n : Nat} {val : Nat → Value} {a0 : Act}

end

end Go.Lift

/- The holder goes to its send and hands the token on; behind it it sits, or leaves. -/
namespace Go.Lift
open Go.Conc
open Go.ConcN (sumTo upd sumTo_upd upd_ne upd_same)
section
variable {P : Program} {K : World → Prop} {Still : Loc → Prop} {Mem : Nat → Prop} {Inb : Nat → Option Seat} {h : Nat}

/-- It stands at a send of v on channel c; behind it it is on its way to its seat (some s), or only leaves (none); F is known of the world. -/
def AtGive (P : Program) (K : World → Prop) (Still : Loc → Prop) (h c : Nat) (v : Value) (o : Option Seat) (F : World → Prop) (a : Goroutine) (w : World) : Prop :=
  a.status = .running ∧ F w ∧ ∃ (a₂ : Goroutine) (z : Value) (es : Array Event) (nh B₀ : Nat), B₀ ≤ w.heap.size ∧ (∀ d, stepG P (h == 0) a (w.at d) = .comm a₂ #[scase c v z] true .send (w.at d) es) ∧ (∀ B, B₀ ≤ B → ∀ e ∈ es, EvHd Still B e) ∧
    ∀ B, B₀ ≤ B → ∀ T, Deaf T h = 0 → Idle P K Still B T h nh (Go.Conc.served a₂ undef) o

end
end Go.Lift

/- The holder goes to a go statement; the child holds the token from its birth, and the elder one sits, or leaves. -/
namespace Go.Lift
open Go.Conc
open Go.ConcN (sumTo upd sumTo_upd upd_ne upd_same)
section
variable {P : Program} {K : World → Prop} {Still : Loc → Prop} {Mem : Nat → Prop} {Inb : Nat → Option Seat} {h : Nat}

/-- It stands at a go statement whose goroutine is 'child'; behind it it is on its way to its seat (some s), or only leaves (none); F is known of the child and the world. -/
def AtHire (P : Program) (K : World → Prop) (Still : Loc → Prop) (h : Nat) (o : Option Seat) (F : Goroutine → World → Prop) (a : Goroutine) (w : World) : Prop :=
  a.status = .running ∧ ∃ (a' child : Goroutine) (es : Array Event) (nh B₀ : Nat), B₀ ≤ w.heap.size ∧ F child w ∧ (∀ d, stepG P (h == 0) a (w.at d) = .spawn a' child (w.at d) es) ∧ (∀ B, B₀ ≤ B → ∀ e ∈ es, EvHd Still B e) ∧
    ∀ B, B₀ ≤ B → ∀ T, Deaf T h = 0 → Idle P K Still B T h nh a' o

end
end Go.Lift

/- The kit's walk in company, of which the number of steps is told, is one of which it is not; the guarantee of a holder that writes while others sit: still cells stay, seats' channels stay. -/
namespace Go.Lift
open Go.Conc

/-- What is listed is well: no still cell is written. -/
def OkT (Sc : Addr → Prop) (e : Event) : Prop := Okay true e ∧ ∀ a, e.loc = .cell a → e.write = true → ¬ Sc a
/-- A holder that writes while others sit: still cells stay, seats' channels stay. -/
def DTw (Sc : Addr → Prop) (Ch : Nat → Prop) (w w' : World) (es : Array Event) : Prop :=
  (∀ a v, Sc a → w.cell? a = some v → w'.cell? a = some v) ∧ (∀ c o, Ch c → w.heap[c]? = some o → w'.heap[c]? = some o) ∧ ∀ e ∈ es, OkT Sc e
/-- No block goes; what is listed lies there. -/
def Lo (w w' : World) (es : Array Event) : Prop := w.heap.size ≤ w'.heap.size ∧ ∀ e ∈ es, e.loc.low w'.heap.size
def DT (Sc : Addr → Prop) (Ch : Nat → Prop) (w w' : World) (es : Array Event) : Prop := DTw Sc Ch w w' es ∧ Lo w w' es
/-- Still places are still cells. -/
def StillC (Sc : Addr → Prop) (l : Loc) : Prop := ∃ a, l = .cell a ∧ Sc a
/-- What lies in the still cells. -/
def KC (Sc : Addr → Prop) (cont : Addr → Value) (w : World) : Prop := ∀ a, Sc a → w.cell? a = some (cont a)

end Go.Lift

/- One step of a walk of which no number of steps is told, as the kit's words take it. -/
namespace Go.Lift
open Go.Conc
section
variable {P : Program} {main : Bool} {D : World → World → Array Event → Prop} {Stop : Goroutine → World → Prop}

variable {b : Frame} {a : Act} {k : List Item} {cs : List Frame} {w : World} {ops : Array Oper} {i : Nat} {rest : List Nat} {o : Oper}

end

end Go.Lift

/- A call of a plain function, in company, by the lone walk of its body. -/
namespace Go.Lift
open Go.Conc
section
variable {P : Program} {main : Bool} {D : World → World → Array Event → Prop} {Stop : Goroutine → World → Prop} {k : List Item} {cs : List Frame} {w : World} {ops : Array Oper} {i : Nat} {rest : List Nat} {o : Oper}

end
end Go.Lift

/- While others sit: a plain piece that writes, walked alone in a world that keeps the still cells from being written, holds in company. -/
namespace Go.Lift
open Go.Conc

/-- The cells that are kept. -/
def ScZ (z : Nat → Option Nat) (a : Addr) : Prop := a.spot = none ∧ z a.block = some a.off
/-- These blocks are no rows of cells. -/
def NoRow (Ch : Nat → Prop) (v : World) : Prop := ∀ c, Ch c → ∃ o, v.heap[c]? = some o ∧ ∀ x e f, o ≠ .cells x e f

section
variable {P : Program} {main : Bool} {Stop : Goroutine → World → Prop} {k : List Item} {cs : List Frame} {w : World} {ops : Array Oper} {i : Nat} {rest : List Nat} {o : Oper}

end

/-- Served, it goes on as c'. -/
def Resumes (P : Program) (main : Bool) (D : World → World → Array Event → Prop) (g c' : Goroutine) : Prop := ∀ (Stop : Goroutine → World → Prop) (x : Value) (w : World), GoesI P main D Stop c' w → GoesI P main D Stop (Go.Conc.served g x) w
end Go.Lift

/- Functions of package turn, and of the Plays, that are plain: they wait for nobody. -/
namespace Go.Proofs.Ytehingmdmijedaa
open Go Go.Lift Go.Conc

theorem no_ready : (Try.prog.funcs.all fun f => (f.body.map readies).all (·.isEmpty)) = true := by kernel_rfl

theorem ahead : Try.prog.follows .staticDataAhead = true := by kernel_rfl

theorem stepOf_none (g : Nat) : Try.prog.stepOf g = none := by
  unfold Program.stepOf
  rw [Array.findIdx?_eq_none_iff]
  intro f hf
  have h := (Array.all_eq_true_iff_forall_mem.1 no_ready) f hf
  cases hb : f.body.map readies with
  | none => simp
  | some l =>
    rw [hb] at h
    simp only [Option.all_some, List.isEmpty_iff] at h
    subst h
    simp

theorem hE : ∀ fr cs dy g w, ∃ o w', early Try.prog fr cs dy g w = .ended o w' := fun fr cs dy g w => by
  unfold early
  simp only [ahead, stepOf_none, Bool.not_true, Bool.false_eq_true, if_false]
  exact ⟨_, _, rfl⟩

end Go.Proofs.Ytehingmdmijedaa

/- Package turn's memory: rows of numbers; how often a cell was changed (turn.changed), walked alone. -/
namespace Go.Proofs.Ytehingmdmijedaa
open Go Go.Lift Go.Conc Go.RowKit
abbrev I (n : Int) : Value := .int .i64 n
abbrev Pt (b o : Nat) : Value := .pointer (some ⟨b, o, none⟩)
/-- What is hidden from the walk. -/
structure Hid (p : Prop) : Prop where
  out : p

/-- A slice of numbers, read. -/
def IntRow (w : World) (v : Value) (l : List Int) : Prop :=
  (l = [] ∧ v = .slice none 0 0) ∨ ∃ cb cap, v = .slice (some ⟨cb, 0, none⟩) l.length cap ∧ ∀ i x, l[i]? = some x → w.cell? ⟨cb, i, none⟩ = some (I x)
/-- How often a cell was changed. -/
def chgOf (l : List Int) (c : Int) : Int := if c < 0 then 0 else l.getD c.toNat 0

/-- The lone walk of a function's body, to its return. -/
def Body (f : Func) (args : Array Value) (w : World) (R : Value → World → Prop) : Prop :=
  ∀ c, f.body = some c → c.wp Try.prog (bodyPost Try.prog f (fun e w' => ∃ v, e = .returned v ∧ R v w')) { tmps := args ++ Array.replicate (f.ntmps - args.size) undef, defers := [] } w

theorem Body.calls {f : FuncId} {fn : Func} {args : Array Value} {w : World} {R : Value → World → Prop} {c : Code} (hf : Try.prog.funcs[f]? = some fn) (hb : fn.body = some c) (h : Body fn args w R) : Calls Try.prog f args w (fun e w' => ∃ v, e = .returned v ∧ R v w') :=
  calls_of_wp hf hb (h c hb)

set_option maxHeartbeats 1000000 in
theorem body51 (wb : Nat) (c : Int) (cv : Value) (l : List Int) (w : World) (h3 : w.cell? ⟨wb, 3, none⟩ = some cv) (hr : IntRow w cv l) : Body Try.f103 #[Pt wb 0, I c] w (fun v w' => v = I (chgOf l c) ∧ w' = w) := by
  intro code hb
  obtain rfl := Option.some.inj hb
  clear hb
  simp only [Try.ntmps103, List.size_toArray, List.length_cons, List.length_nil, Nat.reduceAdd, Nat.reduceSub, Array.replicate_succ, Array.replicate_zero, List.push_toArray, List.append_toArray, List.nil_append, List.cons_append]
  by_cases hc : c < 0
  · have H : Hid (c < 0) := ⟨hc⟩
    have g : (decide (c < 0)) = true := by simpa using hc
    go_wp2
    go_ret
    exact ⟨_, rfl, by simp [chgOf, H.out], rfl⟩
  · obtain ⟨n, rfl⟩ : ∃ n : Nat, c = (n : Int) := ⟨c.toNat, by omega⟩
    clear hc
    have hn0 : ¬ ((n : Int) < 0) := by omega
    rcases hr with ⟨rfl, rfl⟩ | ⟨cb, cap, rfl, hrow⟩
    · have g : ((0 : Int) ≤ (n : Int)) := by omega
      go_wp2
      go_ret
      exact ⟨_, rfl, by simp [chgOf], rfl⟩
    · by_cases hlt : n < l.length
      · have hx := hrow n _ (List.getElem?_eq_getElem hlt)
        have HL : Hid (l[n]? = some l[n]) := ⟨List.getElem?_eq_getElem hlt⟩
        have hlt' : (n : Int) < (l.length : Int) := by omega
        generalize l[n] = x at hx HL
        clear hrow
        go_wp2
        go_ret
        exact ⟨_, rfl, by simp [chgOf, List.getD_eq_getElem?_getD, HL.out]; omega, rfl⟩
      · have H : Hid (l.length ≤ n) := ⟨by omega⟩
        have g : (l.length : Int) ≤ (n : Int) := by omega
        clear hrow hlt
        go_wp2
        go_ret
        exact ⟨_, rfl, by simp [chgOf, List.getD_eq_getElem?_getD, List.getElem?_eq_none H.out], rfl⟩
end Go.Proofs.Ytehingmdmijedaa

/- A step is noted (turn.note), walked alone. -/
namespace Go.Proofs.Ytehingmdmijedaa
open Go Go.Lift Go.Conc Go.RowKit

theorem kcell {u u' : World} (hb : Below u.heap.size u u') {a : Addr} {v : Value} (h : u.cell? a = some v) : u'.cell? a = some v := by
  rw [hb.cell (World.block_lt_of_cell? _ _ h)]; exact h

/-- All is as it was but for these blocks, and for new ones. -/
structure Fr (S : Nat → Prop) (w w' : World) : Prop where
  os : w'.os = w.os
  output : w'.output = w.output
  size : w.heap.size ≤ w'.heap.size
  block : ∀ b, b < w.heap.size → ¬ S b → w'.heap[b]? = w.heap[b]?
theorem Fr.refl (S : Nat → Prop) (w : World) : Fr S w w := ⟨rfl, rfl, Nat.le_refl _, fun _ _ _ => rfl⟩
theorem Fr.mono {S S' : Nat → Prop} {a b : World} (hs : ∀ x, x < a.heap.size → S x → S' x) (h : Fr S a b) : Fr S' a b := ⟨h.os, h.output, h.size, fun x hx hn => h.block x hx fun hS => hn (hs x hx hS)⟩

/-- What noting does: the trace grows, and nothing else. -/
def Noted (wb : Nat) (tv : Value) (n base : Nat) (xs news : List Value) (w w' : World) : Prop :=
  ∃ g cap, (∀ c t f, w.heap[wb]? = some (.cells c t f) → w'.heap[wb]? = some (.cells (c.setIfInBounds 5 (.slice (some ⟨g, 0, none⟩) (n + 1) cap)) t f)) ∧
    w'.ownsRow base 34 5 (.slice (some ⟨g, 0, none⟩) (n + 1) cap) (n + 1) (xs ++ news) ∧ (tv.ownBlock = some g ∨ w.heap.size ≤ g) ∧ Fr (fun b => b = wb ∨ some b = tv.ownBlock) w w'

theorem heap_setCell_same {w : World} {b o : Nat} {c : Array Value} {t : TypeId} {f : Nat × Nat} (h : w.heap[b]? = some (.cells c t f)) (v : Value) : (w.setCell ⟨b, o, none⟩ v).heap[b]? = some (.cells (c.setIfInBounds o v) t f) := by
  simp [World.setCell, Array.getElem?_modify, h]
theorem own_set {w : World} {base : Nat} {e : TypeId} {size : Nat} {v : Value} {n : Nat} {xs : List Value} (h : w.ownsRow base e size v n xs) (a : Addr) (x : Value) (hne : v.ownBlock ≠ some a.block) : (w.setCell a x).ownsRow base e size v n xs := by
  refine ⟨h.1, ?_⟩
  rcases h.2 with h2 | ⟨g, cap, cur, h1, h2, h3, h4⟩
  · exact .inl h2
  · refine .inr ⟨g, cap, cur, h1, h2, ?_, h4⟩
    rw [Below.heap_setCell _ _ _ _ (fun e => hne (by rw [h1, e]; rfl))]
    exact h3
theorem noted_of {wb : Nat} {tv : Value} {n base : Nat} {xs news : List Value} {w u w6 : World} {g cap : Nat} (hb : Below w.heap.size w u) (hw : wb < w.heap.size) (hg : u.grownBy w6 tv.ownBlock) (hown : w6.ownsRow base 34 5 (.slice (some ⟨g, 0, none⟩) (n + 1) cap) (n + 1) (xs ++ news))
    (hat : tv.ownBlock = some g ∨ g = u.heap.size) (hne : tv.ownBlock ≠ some wb) : Noted wb tv n base xs news w (w6.setCell ⟨wb, 5, none⟩ (.slice (some ⟨g, 0, none⟩) (n + 1) cap)) := by
  have hgw : g ≠ wb := by
    rcases hat with h | h
    · exact fun e => hne (by rw [h, e])
    · have := hb.size; omega
  have e6 : w6.heap[wb]? = w.heap[wb]? := (hg.block wb (Nat.lt_of_lt_of_le hw hb.size) (Ne.symm hne)).trans (hb.block wb hw)
  refine ⟨g, cap, fun c t f h => heap_setCell_same (by rw [e6]; exact h) _, own_set hown _ _ (fun e => hgw (Option.some.inj e)), ?_, ?_⟩
  · rcases hat with h | h
    · exact .inl h
    · exact .inr (by have := hb.size; omega)
  · refine ⟨by show w6.os = _; rw [hg.os, hb.os], by show w6.output = _; rw [hg.output, hb.output], ?_, fun b hlt hs => ?_⟩
    · have := hb.size
      have := hg.size
      simp only [World.setCell, Array.size_modify]
      omega
    · rw [Below.heap_setCell _ _ _ _ (fun e => hs (.inl e)), hg.block b (Nat.lt_of_lt_of_le hlt hb.size) (fun e => hs (.inr e)), hb.block b hlt]

theorem below_alloc {a b : World} (h : Below a.heap.size a b) (o : Obj) : Below a.heap.size a (b.alloc o) := h.alloc h.size o
theorem own_later {w w' : World} {base : Nat} {e : TypeId} {size : Nat} {v : Value} {n : Nat} {xs : List Value} (hb : Below w.heap.size w w') (h : w.ownsRow base e size v n xs) : w'.ownsRow base e size v n xs := by
  refine ⟨h.1, ?_⟩
  rcases h.2 with h2 | ⟨g, cap, cur, h1, h2, h3, h4⟩
  · exact .inl h2
  · exact .inr ⟨g, cap, cur, h1, h2, (hb.block g (Array.getElem?_eq_some_iff.1 h3).1).trans h3, h4⟩
theorem info34 : (Try.prog.info? 34).map (fun i => (i.zero, i.size, i.bytes)) = some (some (.agg #[I 0, I 0, I 0, I 0, I 0]), 5, 40) := by kernel_rfl
theorem one5 (a b c d e : Int) : ∀ u ∈ [I a, I b, I c, I d, I e], u.oneCell' = true := by
  intro u hu
  simp at hu
  rcases hu with rfl | rfl | rfl | rfl | rfl <;> rfl
theorem keep4 {u u' : World} {a1 a2 a3 : Addr} {v1 v2 v3 : Value} (h : u.cell? a1 = some v1 ∧ u.cell? a2 = some v2 ∧ u.cell? a3 = some v3 ∧ u.frozen? a3 = false) (hb : Below u.heap.size u u') :
    u'.cell? a1 = some v1 ∧ u'.cell? a2 = some v2 ∧ u'.cell? a3 = some v3 ∧ u'.frozen? a3 = false := by
  obtain ⟨h1, h2, h3, h4⟩ := h
  exact ⟨kcell hb h1, kcell hb h2, kcell hb h3, by rw [hb.frozen (World.block_lt_of_cell? _ _ h3)]; exact h4⟩
theorem keep4g {u u' : World} {row : Option Nat} {a1 a2 a3 : Addr} {v1 v2 v3 : Value} (h : u.cell? a1 = some v1 ∧ u.cell? a2 = some v2 ∧ u.cell? a3 = some v3 ∧ u.frozen? a3 = false) (hg : u.grownBy u' row)
    (h1 : row ≠ some a1.block) (h2 : row ≠ some a2.block) (h3 : row ≠ some a3.block) : u'.cell? a1 = some v1 ∧ u'.cell? a2 = some v2 ∧ u'.cell? a3 = some v3 ∧ u'.frozen? a3 = false := by
  obtain ⟨g1, g2, g3, g4⟩ := h
  exact ⟨by rw [hg.cell_far _ (World.block_lt_of_cell? _ _ g1) h1.symm]; exact g1, by rw [hg.cell_far _ (World.block_lt_of_cell? _ _ g2) h2.symm]; exact g2, by rw [hg.cell_far _ (World.block_lt_of_cell? _ _ g3) h3.symm]; exact g3,
    by rw [hg.frozen_far _ (World.block_lt_of_cell? _ _ g3) h3.symm]; exact g4⟩

theorem news5 (w : World) (a b c d e : Int) (t : TypeId) : ∀ j u, [I a, I b, I c, I d, I e][j]? = some u → (w.alloc (.cells #[I a, I b, I c, I d, I e] t)).cell? ((⟨w.heap.size, 0, none⟩ : Addr).add j) = some u := by
  intro j u hj
  have hb : (w.alloc (.cells #[I a, I b, I c, I d, I e] t)).heap[w.heap.size]? = some (.cells #[I a, I b, I c, I d, I e] t) := Array.getElem?_push_size
  exact World.news_of_block hb j u hj
set_option maxHeartbeats 2000000 in
set_option maxRecDepth 100000 in
theorem body38 (tb wb id : Nat) (op ce ol ne : Int) (tv : Value) (n base : Nat) (xs : List Value) (w : World) (h0 : w.cell? ⟨tb, 0, none⟩ = some (Pt wb 0)) (h1 : w.cell? ⟨tb, 1, none⟩ = some (I id)) (h5 : w.cell? ⟨wb, 5, none⟩ = some tv)
    (hf : w.frozen? ⟨wb, 5, none⟩ = false) (hown : w.ownsRow base 34 5 tv n xs) (hbw : tv.ownBlock ≠ some wb) (hbt : tv.ownBlock ≠ some tb) (hn : (n + 1) * 40 ≤ 140737488355328) (hbase : base ≤ w.heap.size) :
    Body Try.f80 #[Pt tb 0, I op, I ce, I ol, I ne] w (fun v w' => v = .tuple #[] ∧ Noted wb tv n base xs [I id, I ce, I op, I ol, I ne] w w') := by
  intro code hb
  obtain rfl := Option.some.inj hb
  clear hb
  simp only [Try.ntmps80, List.size_toArray, List.length_cons, List.length_nil, Nat.reduceAdd, Nat.reduceSub, Array.replicate_succ, Array.replicate_zero, List.push_toArray, List.append_toArray, List.nil_append, List.cons_append]
  have HO : Hid (w.ownsRow base 34 5 tv n xs) := ⟨hown⟩
  clear hown
  obtain ⟨j0, hj, hj0, hj1, hj2⟩ := info_parts info34
  have q0 := World.block_lt_of_cell? _ _ h0
  have q5 := World.block_lt_of_cell? _ _ h5
  simp only at q0 q5
  have n0 : tb ≠ w.heap.size := by omega
  have n5 : wb ≠ w.heap.size := by omega
  have n0' : w.heap.size ≠ tb := by omega
  have n5' : w.heap.size ≠ wb := by omega
  go_region_law (refine step_append_lies _ rfl (.tmp 20) (.tmp 30) 31 rfl base 34 j0 _ 5 40 Try.underlying31 hj hj0 hj1 hj2 rfl (by decide) tv n xs rfl (own_later (below_alloc (Below.refl _ _).drew _) HO.out) ⟨_, 0, none⟩ 1 1 [I id, I ce, I op, I ol, I ne] rfl rfl (news5 _ _ _ _ _ _ _) (one5 _ _ _ _ _) (by decide) (by unfold maxLen; omega) (by omega) (by simp; omega) _ rfl ?_
                 intro g cpg w6 hown6 hgrow6 hat6 hlt6
                 obtain ⟨_, _, k5, k6⟩ := keep4g (keep4 (u := w) ⟨h0, h1, h5, hf⟩ (below_alloc (Below.refl _ _).drew _)) hgrow6 hbt hbt hbw)
  all_goals first
    | exact ⟨rfl, _, results_none rfl _ _ _, _, rfl, rfl, noted_of (below_alloc (Below.refl _ _).drew _) q5 hgrow6 hown6 hat6 hbw⟩
    | exact ⟨rfl, _, results_none rfl _ _ _, _, rfl, rfl, noted_of ((below_alloc (Below.refl _ _) _).drew) q5 hgrow6 hown6 hat6 hbw⟩
end Go.Proofs.Ytehingmdmijedaa
