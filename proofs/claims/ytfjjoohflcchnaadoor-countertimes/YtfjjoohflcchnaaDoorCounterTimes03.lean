/- Of the proof of CounterTimes. Part 3 of 31. (Joined, by program, and written short, of: Lift8, Lift10, Lift11, Lift12, Lift13, Lift14, Lift15, Lift16, Lift17, Lift18.) -/
import Derived.Test.YtfjjoohflcchnaaDoorCounterTimes02
import Derived.Conc.TokenAlone
import Derived.Conc.Own3
import Derived.Conc.CompanyDraw
set_option linter.unusedSimpArgs false
set_option linter.unusedVariables false
set_option maxHeartbeats 4000000
set_option maxRecDepth 100000
namespace Go.Lift
section
variable {P:Program} {wr:Bool}
theorem calm_ite {α:Type} {c:Prop} [Decidable c] {a b:Sem α} (ha:calm P wr a) (hb:calm P wr b):calm P wr (if c then a else b):=by split<;>assumption
def calm0 (P:Program) (wr:Bool) {α:Type}:Sem α→Prop
 |.pure _=>True
 |.load _ _ k=>∀ v,calm0 P wr (k v)
 |.store _ _ _ k=>wr=true∧calm0 P wr k
 |.new _ k=>∀ r,calm0 P wr (k r)
 |.shape _ k=>∀ s,calm0 P wr (k s)
 |.freeze _ _ _=>False
 |.frozen _ k=>∀ b,calm0 P wr (k b)
 |.getObj _ k=>∀ o,calm0 P wr (k o)
 |.setObj _ _ _=>False
 |.choose _ k=>∀ n,calm0 P wr (k n)
 |.sys _ _=>False
 |.program k=>calm0 P wr (k P)
 |.mark m k=>(m=.noRoom∨∃ f,m=.extern f)∧calm0 P wr k
 |.halt h=>Soft h
theorem dead_right {α β:Type} {f:α→Sem β} (hf:∀ a,dead P (f a)):∀ {s:Sem α},calm0 P wr s→dead P (s.bind f):=by
 intro s
 induction s with
 |pure a=>intro h;exact hf a
 |load m a k ih=>intro h v;exact ih v (h v)
 |store m a v k ih=>intro h;exact ih h.2
 |new o k ih=>intro h r;exact ih r (h r)
 |shape r k ih=>intro h s;exact ih s (h s)
 |freeze a n k ih=>intro h;exact h.elim
 |frozen a k ih=>intro h b;exact ih b (h b)
 |getObj r k ih=>intro h o;exact ih o (h o)
 |setObj r o k ih=>intro h;exact h.elim
 |choose q k ih=>intro h n;exact ih n (h n)
 |sys c k ih=>intro h;exact h.elim
 |program k ih=>intro h;exact ih P h
 |mark m k ih=>intro h;exact ih h.2
 |halt x=>intro h;trivial
theorem calm_dead {α β:Type} {f:α→Sem β} (hf:∀ a,calm P wr (f a)∧dead P (f a)):∀ {s:Sem α},calm0 P wr s→calm P wr (s.bind f):=by
 intro s
 induction s with
 |pure a=>intro h;exact (hf a).1
 |load m a k ih=>intro h v;exact ih v (h v)
 |store m a v k ih=>intro h;exact ⟨h.1,ih h.2⟩
 |new o k ih=>intro h r;exact ih r (h r)
 |shape r k ih=>intro h s;exact ih s (h s)
 |freeze a n k ih=>intro h;exact h.elim
 |frozen a k ih=>intro h;exact ⟨fun b=>ih b (h b),dead_right (fun a=>(hf a).2) (h true)⟩
 |getObj r k ih=>intro h o;exact ih o (h o)
 |setObj r o k ih=>intro h;exact h.elim
 |choose q k ih=>intro h n;exact ih n (h n)
 |sys c k ih=>intro h;exact h.elim
 |program k ih=>intro h;exact ih P h
 |mark m k ih=>intro h;exact ⟨h.1,ih h.2⟩
 |halt x=>intro h;exact h
theorem calm0_mayShare (s l n:Nat) (b:Option Addr) (x:Value):calm0 P wr (Builtin.mayShare s l n b x):=by
 have hh:∀ (a:Addr) (m:Nat) {β:Type} (f:Bool→Sem β),(∀ t,calm0 P wr (f t))→calm0 P wr ((Builtin.holdsCells a m).bind f):=fun a m β f hf=>by
  unfold Builtin.holdsCells
  intro s
  cases s with
  |none=>exact hf _
  |some s=>exact hf _
 have tail:∀ there:Bool,calm0 P wr (if (!there)=true then pure true else match x with
  |.slice (some bb) _ _=>do pure (!(←Builtin.holdsCells bb (n*s))||b.any (·.block==bb.block))
  |_=>pure false:Sem Bool):=fun there=>by
  split
  ·trivial
  ·split
   ·exact hh _ _ _ fun _=>trivial
   ·trivial
 unfold Builtin.mayShare
 cases b with
 |none=>exact tail true
 |some a=>exact hh _ _ _ fun t u=>tail _
theorem calm_share {β:Type} {s l n:Nat} {b:Option Addr} {x:Value} {f:Bool→Sem β} (hf:∀ a,calm P wr (f a)∧dead P (f a)):calm P wr (Builtin.mayShare s l n b x >>= f):=calm_dead hf (calm0_mayShare _ _ _ _ _)
theorem calm_ends {a b c:Nat} {o:Option Addr} {x:Value} {y:String}:calm P wr (do
 if !(←Builtin.mayShare a b c o x) then mark .noRoom
 unsupported (.resourceLimit y):Sem Unit):=by
 refine calm_share (fun t=>?_)
 cases t
 ·refine ⟨?_,?_⟩
  ·exact calm_bind calm_markRoom fun _=>calm_unsupported _
  ·trivial
 ·refine ⟨?_,?_⟩
  ·exact calm_unsupported _
  ·trivial
theorem calm_append (h:wr=true) (ts:Array TypeId) (t:TypeId) (as:Array Value):calm P wr (Builtin.append_ ts t as):=by
 unfold Builtin.append_
 repeat' (first|exact calm_ends|with_reducible (first|exact calm_storeCells h _ _ _|exact calm_firstCells _ _ _|exact calm_lenOf _|exact calm_pure _|exact calm_stuck _|exact calm_runtimePanic _|exact calm_choose _|exact calm_askRoom _|exact calm_typeInfo _|exact calm_underlying _|exact calm_zeroValue _|exact calm_sizeOf _|exact calm_newRow _ _|exact calm_asInt _|refine calm_ite ?_ ?_|refine calm_bind ?_ (fun _=>?_))|split|dsimp only)
end
end Go.Lift
namespace Go.Lift
open Go.Conc
section
variable {P:Program} {wr:Bool} {L:FuncId→Prop}
theorem out_bind {α:Type} {R:Next→Prop} {k:α→Sem Next} (hk:∀ a w x w',(k a).run P w=.ok x w'→R x) {s:Sem α}:∀ {w:World} {x:Next} {w':World},(s.bind k).run P w=.ok x w'→R x:=by
 induction s with
 |pure a=>intro w x w' h;exact hk _ _ _ _ h
 |load m a j ih =>
  intro w x w' h
  simp only [Sem.bind,Sem.run] at h
  split at h
  ·exact ih _ h
  ·split at h
   ·exact ih _ h
   ·cases h
 |store m a v j ih =>
  intro w x w' h
  cases v
  case agg=>cases h
  case tuple=>cases h
  all_goals
   simp only [Sem.bind,Sem.run] at h
   split at h
   ·split at h
    ·cases h
    ·exact ih h
   ·split at h
    ·exact ih h
    ·cases h
 |new o j ih=>intro w x w' h;exact ih _ h
 |shape r j ih=>intro w x w' h;exact ih _ h
 |freeze a n j ih=>intro w x w' h;exact ih h
 |frozen a j ih=>intro w x w' h;exact ih _ h
 |getObj r j ih =>
  intro w x w' h
  simp only [Sem.bind,Sem.run] at h
  split at h
  ·cases h
  ·exact ih _ h
  ·cases h
 |setObj r o j ih =>
  intro w x w' h
  simp only [Sem.bind,Sem.run] at h
  split at h
  ·cases h
  ·exact ih h
  ·cases h
 |choose q j ih =>
  intro w x w' h
  simp only [Sem.bind,Sem.run] at h
  split at h<;>exact ih _ h
 |sys c j ih=>intro w x w' h;exact ih _ h
 |program j ih=>intro w x w' h;exact ih _ h
 |mark m j ih=>intro w x w' h;exact ih h
 |halt y=>intro w x w' h;cases h
theorem val_out {s:Sem Value} {w:World} {x:Next} {w':World} (h:(s.bind fun v=>Sem.pure (Next.value v)).run P w=.ok x w'):∃ v,x=.value v :=
 out_bind (R:=fun x=>∃ v,x=.value v) (fun a w x w' e=>by cases e;exact ⟨_,rfl⟩) h
theorem skip_out {s:Sem Unit} {w:World} {x:Next} {w':World} (h:(s.bind fun _=>Sem.pure Next.skip).run P w=.ok x w'):x=.skip :=
 out_bind (R:=fun x=>x=.skip) (fun a w x w' e=>by cases e;rfl) h
theorem fine_val {o:Oper} (s:(Operand→Value)→Sem Value) (he:∀ ρ,execOp ρ o=(s ρ).bind fun v=>Sem.pure (Next.value v)) (hc:∀ ρ,calm P wr (s ρ)):fineOp P wr L o:=fun a=>by
 rw [he a.eval]
 exact ⟨calm_sbind (hc a.eval) fun _=>trivial,fun w x w' h=>.inl (val_out h)⟩
theorem fine_unit {o:Oper} (s:(Operand→Value)→Sem Unit) (he:∀ ρ,execOp ρ o=(s ρ).bind fun _=>Sem.pure Next.skip) (hc:∀ ρ,calm P wr (s ρ)):fineOp P wr L o:=fun a=>by
 rw [he a.eval]
 exact ⟨calm_sbind (hc a.eval) fun _=>trivial,fun w x w' h=>.inr (.inl (skip_out h))⟩
theorem calm_followBlind:∀ (l:List FieldStep) (t:TypeId) (x:Option Value),calm P wr (followBlind l t x):=by
 intro l
 induction l with
 |nil=>intro t x;exact calm_pure _
 |cons s l ih =>
  intro t x
  unfold followBlind
  repeat' (first|with_reducible (first|exact ih _ _|exact calm_pure _|exact calm_stuck _|exact calm_underlying _|exact calm_part _ _ _|refine calm_bind ?_ (fun _=>?_))|split|dsimp only)
theorem calm_nilAhead:∀ (d:Nat) (t:TypeId) (v:Value) (n:String),calm P wr (nilAhead d t v n):=by
 intro d
 induction d with
 |zero=>intro t v n;exact calm_pure _
 |succ d ih =>
  intro t v n
  unfold nilAhead
  repeat' (first|with_reducible (first|exact ih _ _ _|exact calm_followBlind _ _ _|exact calm_pure _|exact calm_stuck _|exact calm_typeInfo _|exact calm_underlying _|refine calm_bind ?_ (fun _=>?_))|split|dsimp only)
theorem fine_nilCheck {o:Oper} {x:Operand} (ho:o.op=.nilCheck x):fineOp P wr L o:=fun a=>by
 unfold execOp
 rw [ho]
 dsimp only
 constructor
 ·repeat' (first|with_reducible (first|exact calm_nilAhead _ _ _ _|exact calm_viewAt _|exact calm_numberAt _|exact calm_asNumber _ _|exact calm_behindNumber _|exact calm_noView _|exact calm_byteOf _|exact calm_partAt _ _ _|exact calm_fieldPlace _ _|exact calm_typeStr _|exact calm_alloc _|exact calm_box _ _|exact calm_build _ _|exact calm_buildSlice _ _ _|exact calm_loadAt _ _|exact calm_fieldAt _ _ _|exact calm_indexAt _ _ _|exact calm_sliceBound _ _ _|exact calm_sliceBounds _ _ _ _ _ _|exact calm_slice _ _ _ _ _|exact calm_sliceAt _ _ _ _ _|exact calm_makeChan _ _|exact calm_makeSlice _ _ _|exact calm_field _ _ _|exact calm_index _ _ _|exact calm_extract _ _|exact calm_len _ _ _|exact calm_cap _ _ _|exact calm_lenOf _|exact calm_firstCells _ _ _|exact calm_holdsCells _ _|exact calm_intArith _ _ _ _|exact calm_intDiv _ _ _ _|exact calm_intBits _ _ _ _|exact calm_intCmp _ _ _|exact calm_shift _ _ _ _ _|exact calm_stringOp _ _ _|exact calm_floatArith _ _ _ _|exact calm_floatCmp _ _ _ _|exact calm_twoPlaces _ _|exact calm_addrSub _ _ _|exact calm_addrCmp _ _ _|exact calm_addrMod _ _ _|exact calm_unsafeAdd _ _ _|exact calm_movedNumber _ _ _|exact calm_movedPointer _ _ _|exact calm_unary _ _|exact calm_floatToFloat _ _ _|exact calm_pure _|exact calm_stuck _|exact calm_unsupported _|exact calm_goPanic _|exact calm_runtimePanic _|exact calm_boundsPanic _ _ _ _|exact calm_program|exact calm_shape _|exact calm_getObj _|exact calm_newObj _|exact calm_choose _|exact calm_load _ _|exact calm_askRoom _|exact calm_typeInfo _|exact calm_underlying _|exact calm_zeroValue _|exact calm_sizeOf _|exact calm_isAgg _|exact calm_elemOf _|exact calm_newRow _ _|exact calm_newVar _ _|exact calm_asIntOf _|exact calm_asInt _|exact calm_asBool _|exact calm_asAgg _|exact calm_asAddr _|exact calm_sureAddr _|exact calm_loadCells _ _|exact calm_loadVar _ _|exact calm_part _ _ _|exact calm_markRoom|exact calm_markExtern _|apply calm_map|refine calm_bind ?_ (fun _=>?_))|split|dsimp only)
 ·intro w y w' h
  split at h
  ·exact absurd h (by simp [runtimePanic,program,goPanic,bind,Sem.bind,Sem.run])
  ·exact absurd h (by simp [runtimePanic,program,goPanic,bind,Sem.bind,Sem.run])
  ·exact absurd h (by simp [runtimePanic,program,goPanic,bind,Sem.bind,Sem.run])
  ·left
   split at h
   ·exact absurd h (by simp [runtimePanic,program,goPanic,bind,Sem.bind,Sem.run])
   ·refine out_bind (P:=P) (R:=fun x=>∃ v,x=.value v) (fun a w x w' e=>?_) h
    refine out_bind (P:=P) (R:=fun x=>∃ v,x=.value v) (fun b w x w' e=>?_) e
    split at e
    ·exact absurd e (by simp [unsupported,bind,Sem.bind])
    ·cases e;exact ⟨_,rfl⟩
   ·cases h;exact ⟨_,rfl⟩
  ·cases h;exact .inl ⟨_,rfl⟩
def intT (P:Program) (t:TypeId):Bool :=
 match P.underlying t with
 |some (.int _)=>true
 |_=>false
theorem calm_convert {s d:TypeId} (h:(intT P s&&intT P d)=true) (x:Value):calm P wr (convert s d x):=by
 obtain ⟨hs,hd⟩:=Bool.and_eq_true_iff.1 h
 unfold convert
 refine calm_und fun ds es=>?_
 refine calm_und fun dd ed=>?_
 unfold intT at hs hd
 rw [es] at hs
 rw [ed] at hd
 cases ds<;>simp at hs
 cases dd<;>simp at hd
 split
 all_goals first
  |contradiction
  |exact calm_pure _
  |exact calm_unsupported _
  |(unfold Conv.floatToInt;repeat' (first|with_reducible (first|exact calm_pure _|exact calm_choose _|exact calm_stuck _|exact calm_unsupported _|refine calm_bind ?_ (fun _=>?_))|split|dsimp only))
def plainOp (P:Program) (wr:Bool):Op→Bool
 |.move _|.assign _|.alloc _|.box .. | .build .. | .buildSlice .. | .load .. | .unOp .. | .makeFunc .. | .makeChan .. | .makeSlice .. | .slice .. | .fieldAddr .. | .field .. | .indexAddr .. | .index .. | .extract ..=>true
 |.binOp op t x y _=>eqOk P op t x y
 |.convert a b _=>intT P a&&intT P b
 |.store ..=>wr
 |.nilCheck _|.pick ..=>true
 |.call { callee:=.builtin .len,.. }|.call { callee:=.builtin .cap,.. }=>true
 |.call { callee:=.builtin .copy,.. }|.call { callee:=.builtin .append,.. }=>wr
 |_=>false
theorem equal_ok {op:BinOp} {t:TypeId} {x y:Operand} (h:eqOk P op t x y=true) (a:Act) (ho:op=.eql∨op=.neq):calm P wr (Op.equal t (a.eval x) (a.eval y)):=by
 have h':(flatT P t||(isPtr P t&&(isNil x||isNil y)))=true:=by
  rcases ho with rfl|rfl<;>exact h
 rcases Bool.or_eq_true_iff.1 h' with h1|h1
 ·exact calm_equal_flat h1 _ _
 ·obtain ⟨h2,h3⟩:=(Bool.and_eq_true _ _▸h1:_∧_)
  refine calm_equal_nil h2 ?_
  rcases Bool.or_eq_true_iff.1 h3 with h4|h4
  ·left;unfold isNil at h4;split at h4;rfl;cases h4
  ·right;unfold isNil at h4;split at h4;rfl;cases h4
theorem fine_plain {o:Oper} (h:plainOp P wr o.op=true):fineOp P wr L o:=by
 obtain ⟨dst,op,type,pos,after,guard⟩:=o
 cases op<;>simp only [plainOp,Bool.false_eq_true] at h
 case move x=>exact fun ρ=>⟨trivial,fun w y w' e=>by cases e;exact .inl ⟨_,rfl⟩⟩
 case assign x=>exact fun ρ=>⟨trivial,fun w y w' e=>by cases e;exact .inl ⟨_,rfl⟩⟩
 case alloc e=>exact fine_val (fun ρ=>Instr.alloc e true (.tuple #[])) (fun _=>rfl) (fun _=>calm_alloc _)
 case box e x=>exact fine_val (fun ρ=>Instr.box e (ρ x)) (fun _=>rfl) (fun _=>calm_box _ _)
 case build t ps=>exact fine_val (fun ρ=>Instr.build t (ps.map fun (i,x)=>(i,ρ x))) (fun _=>rfl) (fun _=>calm_build _ _)
 case buildSlice t l ps=>exact fine_val (fun ρ=>Instr.buildSlice t l (ps.map fun (i,x)=>(i,ρ x))) (fun _=>rfl) (fun _=>calm_buildSlice _ _ _)
 case load t a=>exact fine_val (fun ρ=>Instr.loadAt t (ρ a)) (fun _=>rfl) (fun _=>calm_loadAt _ _)
 case store t a x=>exact fine_unit (fun ρ=>Instr.storeAt t (ρ a) (ρ x)) (fun _=>rfl) (fun _=>calm_storeAt h _ _ _)
 case nilCheck x=>exact fine_nilCheck rfl
 case pick c x y=>exact fun a=>⟨calm_bind (calm_asBool _) fun _=>calm_pure _,fun w z w' e=>.inl (out_bind (P:=P) (R:=fun x=>∃ v,x=.value v) (fun b w x w' e=>by cases e;exact ⟨_,rfl⟩) e)⟩
 case binOp op xt x y yt =>
  refine fun a=>?_
  have he:execOp a.eval { dst:=dst,op:=.binOp op xt x y yt,type:=type,pos:=pos,after:=after,guard:=guard }=(do eqGuard op xt x y (a.eval x) (a.eval y);binOp op xt (a.eval x) (a.eval y):Sem Value).bind fun v=>Sem.pure (Next.value v):=rfl
  rw [he]
  exact ⟨calm_sbind (calm_bind (calm_eqGuard _ _ _ _ _ _) fun _=>calm_binOp _ _ _ _ (equal_ok h a)) fun _=>trivial,fun w x w' h=>.inl (val_out h)⟩
 case convert a b x=>exact fine_val (fun ρ=>convert a b (ρ x)) (fun _=>rfl) (fun _=>calm_convert h _)
 case unOp op t x=>exact fine_val (fun ρ=>Op.unary op (ρ x)) (fun _=>rfl) (fun _=>calm_unary _ _)
 case makeFunc f a b=>exact fine_val (fun ρ=>Instr.makeFunc f (a.map ρ) (b.map ρ)) (fun _=>rfl) (fun _=>calm_pure _)
 case makeChan t s=>exact fine_val (fun ρ=>Instr.makeChan t (ρ s)) (fun _=>rfl) (fun _=>calm_makeChan _ _)
 case makeSlice t l c=>exact fine_val (fun ρ=>Instr.makeSlice t (ρ l) (ρ c)) (fun _=>rfl) (fun _=>calm_makeSlice _ _ _)
 case slice t x a b c=>exact fine_val (fun ρ=>Instr.sliceAt t (ρ x) (a.map ρ) (b.map ρ) (c.map ρ)) (fun _=>rfl) (fun _=>calm_sliceAt _ _ _ _ _)
 case fieldAddr s x f=>exact fine_val (fun ρ=>Instr.fieldAt s (ρ x) f) (fun _=>rfl) (fun _=>calm_fieldAt _ _ _)
 case field t x f=>exact fine_val (fun ρ=>Instr.field t (ρ x) f) (fun _=>rfl) (fun _=>calm_field _ _ _)
 case indexAddr t x i=>exact fine_val (fun ρ=>Instr.indexAt t (ρ x) (ρ i)) (fun _=>rfl) (fun _=>calm_indexAt _ _ _)
 case index t x i=>exact fine_val (fun ρ=>Instr.index t (ρ x) (ρ i)) (fun _=>rfl) (fun _=>calm_index _ _ _)
 case extract t i=>exact fine_val (fun ρ=>Instr.extract (ρ t) i) (fun _=>rfl) (fun _=>calm_extract _ _)
 case call c =>
  obtain ⟨callee,args,ats⟩:=c
  cases callee with
  |builtin b =>
   cases b<;>simp only [Bool.false_eq_true] at h
   case len=>exact fine_val (fun ρ=>Builtin.len_ ats type (args.map ρ)) (fun _=>rfl) (fun _=>calm_len _ _ _)
   case cap=>exact fine_val (fun ρ=>Builtin.cap_ ats type (args.map ρ)) (fun _=>rfl) (fun _=>calm_cap _ _ _)
   case append=>exact fine_val (fun ρ=>Builtin.append_ ats type (args.map ρ)) (fun _=>rfl) (fun _=>calm_append h _ _ _)
   case copy=>exact fine_val (fun ρ=>Builtin.copy_ ats type (args.map ρ)) (fun _=>rfl) (fun _=>calm_copy h _ _ _)
  |_=>simp only [Bool.false_eq_true] at h
theorem fine_call {o : Oper} {f : FuncId} {args : Array Operand} {ats : Array TypeId} {fn : Func} (ho : o.op = .call { callee := .value (.func f), args := args, argTypes := ats }) (hf : P.funcs[f]? = some fn) (hn : (fn.name == "runtime.NumGoroutine") = false) (hb : fn.body.isNone = false) (hL : L f) : fineOp P wr L o := fun a => by
 have e:execOp a.eval o=callFunc f ((#[]++args.map a.eval)++#[]):=by
  unfold execOp
  rw [ho]
  rfl
 rw [e]
 constructor
 ·simp only [callFunc,program,bind,Sem.bind,calm,hf,hn,hb,Bool.false_eq_true,if_false]
  exact calm_pure _
 ·intro w x w' h
  simp only [callFunc,program,bind,Sem.bind,Sem.run,hf,hn,hb,Bool.false_eq_true,if_false] at h
  cases h
  exact .inr (.inr ⟨_,_,rfl,hL⟩)
end
section
variable {P:Program} {z:Nat→Option Nat} {wr:Bool} {L:FuncId→Prop} {D:World→World→Array Event→Prop} {I:World→Prop} {main:Bool} {b:Frame} {k:List Item} {cs:List Frame}
theorem GoesI.mono {D:World→World→Array Event→Prop} {Stop Stop':Goroutine→World→Prop} (h:∀ g w,Stop g w→Stop' g w) {g:Goroutine} {w:World} (hg:GoesI P main D Stop g w):GoesI P main D Stop' g w:=by
 exact hg.induct (M:=fun g w=>GoesI P main D Stop' g w) (fun _ _ hs=>.stop fun d=>h _ _ (hs d)) (fun _ _ hs g' w' es e hD _ ih=>.step hs g' w' es e hD ih)
theorem GoesI.at {D:World→World→Array Event→Prop} {Stop:Goroutine→World→Prop} {g:Goroutine} {w:World} (hg:GoesI P main D Stop g w) (d:Nat):GoesI P main D Stop g (w.at d):=by
 exact hg.induct (M:=fun g w=>∀ d,GoesI P main D Stop g (w.at d)) (fun _ _ hs d=>.stop fun d'=>hs d') (fun _ _ hs g' w' es e hD hn _ d=>.step hs g' w' es e hD hn) d
theorem GoesI.then {D:World→World→Array Event→Prop} {Stop Stop':Goroutine→World→Prop} {g:Goroutine} {w:World} (hg:GoesI P main D Stop g w) (h:∀ g w,Stop g w→GoesI P main D Stop' g w):GoesI P main D Stop' g w:=by
 exact hg.induct (M:=fun g w=>GoesI P main D Stop' g w) (fun g w hs=>h _ _ (hs w.drawn)) (fun _ _ hs g' w' es e hD _ ih=>.step hs g' w' es e hD ih)
theorem GoesI.ctl {D:World→World→Array Event→Prop} {Stop:Goroutine→World→Prop} {g g':Goroutine} {w:World} (hs:g.status=.running) (e:∀ w,stepG P main g w=.go g' w #[]) (hD:∀ w,D w w #[]) (h:GoesI P main D Stop g' w):GoesI P main D Stop g w :=
 .step hs (fun _=>g') (fun d=>w.at d) (fun _=>#[]) (fun _=>e _) (fun _=>hD _) (fun d=>h.at d)
theorem lift_code (hE:∀ fr cs dy g w,∃ o w',early P fr cs dy g w=.ended o w') (hL:∀ g,L g→fineFn P wr L g) (hI:∀ v v',Keeps wr v v'→I v→I v')
 (hD:∀ v v' w w' es,I v→Rel z v w→Out z wr v v' w w'→(∀ e∈es,Okay wr e∧Spares z w' e)→D w w' es)
 {c:Code} {a:Act} {Q:Exit→Act→World→Prop} {v w:World} (hvw:Rel z v w) (hc:fineCode P wr L c) (ha:a.defers=[]) (hb:b.kind≠.early) (hi:I v)
 (hwp:∀ τ,c.wp P Q a (onTape v τ 0)) (hQ:∀ e a w,Q e a w→e=.normal∨e=.ret) :
 GoesI P main D (fun g w'=>∃ a' v',Rel z v' w'∧I v'∧a'.defers=[]∧((Q .normal a' v'∧g=G (b.at a' k) cs)∨(Q .ret a' v'∧∃ todo,g=G { b.at a' todo with mode:=.returning } cs))) (G (b.at a (.code c :: k)) cs) w:=by
 have key:=lift_goes (P:=P) (z:=z) (wr:=wr) (L:=L) (b:=b) (Q:=Q) (D:=D) (I:=I) (main:=main) (k:=k) (cs:=cs) hE hL hI hD (s:=⟨[],⟨b,a,[.code c],false⟩⟩) (v:=v) (w:=w)
  ⟨⟨fun x hx=>by rcases List.mem_singleton.1 hx with rfl;exact hc,ha,hb⟩,rfl,fun _ h=>by simp at h,fun _ h=>by simp at h⟩ hvw hi (fun τ=>by
   obtain ⟨e,a',w',hq,harr⟩:=hwp τ b tail [last]
   rcases hQ _ _ _ hq with rfl|rfl
   ·obtain ⟨n,hn⟩:=harr
    exact ⟨n,_,hn,.inl ⟨a',w',rfl,hq⟩⟩
   ·obtain ⟨todo,n,hn⟩:=harr
    exact ⟨n,_,hn,.inr ⟨{ b.at a' todo with mode:=.returning },w',rfl,rfl,hq⟩⟩)
 refine GoesI.mono (fun g w' hg=>?_) key
 obtain ⟨s,v,rfl,⟨hu,hdn⟩,heb,hdf,hr,hiv,hq⟩:=hg
 obtain ⟨ups,⟨bb,ba,bt,br⟩⟩:=s
 simp only at hu heb hdf
 subst hu heb
 refine ⟨ba,v,hr,hiv,hdf,?_⟩
 cases br with
 |true=>exact .inr ⟨hq,bt++k,rfl⟩
 |false =>
  simp only [Bool.false_eq_true,false_or] at hdn
  subst hdn
  exact .inl ⟨hq,rfl⟩
end
end Go.Lift
namespace Go.Lift
open Go.Conc
open Go.ConcN (sumTo upd sumTo_upd upd_ne upd_same)
theorem goes_weaken {P:Program} {main:Bool} {R R':World→World→Prop} {D D':World→World→Array Event→Prop} {Stop Stop':Goroutine→World→Prop} (hR:∀ w w₁,R' w w₁→R w w₁) (hD:∀ w w' es,D w w' es→D' w w' es) (hS:∀ g w,Stop g w→Stop' g w) :
 ∀ {n:Nat} {g:Goroutine} {w:World},Goes P main R D Stop n g w→Goes P main R' D' Stop' n g w:=by
 intro n
 induction n with
 |zero=>intro g w h w₁ h₁;exact hS _ _ (h w₁ (hR _ _ h₁))
 |succ n ih =>
  intro g w h
  rcases h with h|⟨hr,h⟩
  ·exact .inl fun w₁ h₁=>hS _ _ (h w₁ (hR _ _ h₁))
  ·refine .inr ⟨hr,fun w₁ h₁=>?_⟩
   have:=h w₁ (hR _ _ h₁)
   revert this
   cases stepG P main g w₁<;>simp only [GStep.goes,imp_self]
   exact fun ⟨d,x⟩=>⟨hD _ _ _ d,ih x⟩
section
variable {P:Program} {K K':World→Prop} {Still Still':Loc→Prop} {B B':Nat} {Mem:Nat→Prop} {Inb:Nat→Option Seat} {h:Nat} {T:Trace} {gs:Array Goroutine} {w:World} {q:Nat→Nat}
theorem evC_grow (hS:∀ l,Still l→Still' l) (hB:B≤B') {e:Event} (he:EvC Still B e):EvC Still' B' e:=by
 obtain ⟨a,h1,h2,h3⟩:=he
 exact ⟨a,h1,hS _ h2,Nat.lt_of_lt_of_le h3 hB⟩
theorem atIn_grow (hS:∀ l,Still l→Still' l) (hB:B≤B') (hK:∀ w,K' w→K w) {main:Bool} {s:Seat} {g g₂:Goroutine} (hg:AtIn P main K Still B s g g₂):AtIn P main K' Still' B' s g g₂:=by
 obtain ⟨h1,h2,h3,h4,h5,es,h6,h7⟩:=hg
 exact ⟨h1,h2,h3,h4,h5,es,fun e he=>evC_grow hS hB (h6 e he),fun w hw=>h7 w (hK w hw)⟩
theorem sits_grow (hS:∀ l,Still l→Still' l) (hB:B≤B') (hK:∀ w,K' w→K w) {main:Bool} {s:Seat} {n:Nat} {g:Goroutine} (hg:Sits P main K Still B s n g):Sits P main K' Still' B' s n g:=by
 rcases hg with ⟨k,w,e,hg⟩|⟨e,g₀,g₂,hg,ha⟩
 ·exact .inl ⟨k,w,e,goes_weaken (fun _ _ h=>hK _ h) (fun _ _ _ ⟨x,y⟩=>⟨x,fun e he=>evC_grow hS hB (y e he)⟩) (fun _ _ ⟨g₂,h⟩=>⟨g₂,atIn_grow hS hB hK h⟩) hg⟩
 ·exact .inr ⟨e,g₀,g₂,hg,atIn_grow hS hB hK ha⟩
theorem idle_grow (hS:∀ l,Still l→Still' l) (hB:B≤B') (hK:∀ w,K' w→K w) {i n:Nat} {g:Goroutine} {o:Option Seat} (hg:Idle P K Still B T i n g o):Idle P K' Still' B' T i n g o:=by
 cases o with
 |none=>exact hg
 |some s=>exact sits_grow hS hB hK hg
theorem Ring.grow (C:Ring P K Still B Mem Inb h T gs w q) (hS:∀ l,Still l→Still' l) (hB:B≤B') (hK:∀ w,K' w→K w) (hw:K' w)
 (hnew:∀ i a,touchAt T i=some a→Still' a.loc→¬ Still a.loc→a.write=false):Ring P K' Still' B' Mem Inb h T gs w q :=
 ⟨fun i g hi hg=>idle_grow hS hB hK (C.idle i g hi hg),C.chans,C.wf,C.live,C.inj,C.above,fun i s e=>⟨(C.mem i s e).1,fun c hc=>Nat.lt_of_lt_of_le ((C.mem i s e).2 c hc) hB⟩,C.nomem,C.lo,
  ⟨C.past.clean,fun i a ha hm=>(C.past.known i a ha hm).imp id fun ⟨x,y,z⟩=>⟨x,hS _ y,z⟩,(fun i a ha hwr hst g hg=>by
   by_cases hold:Still a.loc
   ·exact C.past.wrote i a ha hwr hold g hg
   ·rw [hnew i a ha hst hold] at hwr;cases hwr),C.past.hears,fun op hop=>MemAct.low_mono hB (C.past.seen op hop)⟩,hw⟩
theorem Ring.raise (C:Ring P K Still B Mem Inb h T gs w q) (hB:B≤B'):Ring P K Still B' Mem Inb h T gs w q :=
 Ring.grow C (fun _ x=>x) hB (fun _ x=>x) C.keep (fun _ _ _ x y=>absurd x y)
theorem hold_goes (hKat:∀ w d,K w→K (w.at d)) {D:World→World→Array Event→Prop} {Stop:Goroutine→World→Prop} (hD:∀ w w' es,D w w' es→K w→(∀ i s c,Inb i=some s→s.has c→∃ o,w.heap[c]? = some o)→w.heap.size≤w'.heap.size∧∀ B,w'.heap.size≤B→DH K Still B Inb w w' es)
 {a:Goroutine} {w:World} (hG:GoesI P (h==0) D Stop a w):∀ (gs:Array Goroutine) (sl:Option (Nat×Nat)) (T:Trace) (q:Nat→Nat) (B:Nat),gs[h]? = some a→Ring P K Still B Mem Inb h T gs w q →
 ∃ (N:Nat) (gs':Array Goroutine) (a':Goroutine) (w':World) (sl':Option (Nat×Nat)) (T':Trace) (q':Nat→Nat) (B':Nat),
   runNT P N (crowd gs w sl) T=(.next (crowd gs' w' sl'),T')∧gs'.size=gs.size∧gs'[h]? = some a'∧Stop a' w'∧(B≤B'∧B'≤max B w'.heap.size∧w.heap.size≤w'.heap.size)∧Ring P K Still B' Mem Inb h T' gs' w' q':=by
 refine hG.induct (M:=fun a w=>∀ (gs:Array Goroutine) (sl:Option (Nat×Nat)) (T:Trace) (q:Nat→Nat) (B:Nat),gs[h]? = some a→Ring P K Still B Mem Inb h T gs w q →
  ∃ (N:Nat) (gs':Array Goroutine) (a':Goroutine) (w':World) (sl':Option (Nat×Nat)) (T':Trace) (q':Nat→Nat) (B':Nat),
    runNT P N (crowd gs w sl) T=(.next (crowd gs' w' sl'),T')∧gs'.size=gs.size∧gs'[h]? = some a'∧Stop a' w'∧(B≤B'∧B'≤max B w'.heap.size∧w.heap.size≤w'.heap.size)∧Ring P K Still B' Mem Inb h T' gs' w' q') ?_ ?_
 ·intro g w hs gs sl T q B ha C
  exact ⟨0,gs,g,w,sl,T,q,B,rfl,rfl,ha,hs w.drawn,⟨Nat.le_refl _,Nat.le_max_left _ _,Nat.le_refl _⟩,C⟩
 ·intro g w hrun g' w' es e hDD _ ih
  have key:∀ (m:Nat) (gs:Array Goroutine) (sl:Option (Nat×Nat)) (T:Trace) (q:Nat→Nat) (B d₀:Nat),sumTo gs.size q=m→gs[h]? = some g→Ring P K Still B Mem Inb h T gs (w.at d₀) q →
   ∃ (N:Nat) (gs':Array Goroutine) (a':Goroutine) (w':World) (sl':Option (Nat×Nat)) (T':Trace) (q':Nat→Nat) (B':Nat),
     runNT P N (crowd gs (w.at d₀) sl) T=(.next (crowd gs' w' sl'),T')∧gs'.size=gs.size∧gs'[h]? = some a'∧Stop a' w'∧(B≤B'∧B'≤max B w'.heap.size∧w.heap.size≤w'.heap.size)∧Ring P K Still B' Mem Inb h T' gs' w' q':=by
   intro m
   induction m using Nat.strongRecOn with
   |_ m ihm =>
    intro gs sl T q B d₀ hm ha C
    obtain ⟨i,x,d,sl',hi,hg,hst⟩:=crowd_pick (P:=P) (w:=w.at d₀) (sl:=sl) (C.awake ha (.inl hrun)) ⟨h,g,ha,hrun⟩
    have Cd:Ring P K Still B Mem Inb h T gs (w.at d) q:=TokCore.at hKat C d
    have hst':stepT P (crowd gs (w.at d₀) sl)=runT P (crowd gs (w.at d) sl') i:=hst
    by_cases ei:i=h
    ·subst ei
     obtain rfl:x=g:=by rw [ha] at hi;exact (Option.some.inj hi).symm
     obtain ⟨hB1,hB₀⟩:=hD _ _ _ (hDD d) Cd.keep (fun j s c e hc=>by obtain ⟨cap,n,hk⟩:=Cd.chans j s c (fun z=>z) e hc;exact ⟨_,hk⟩)
     obtain ⟨C',ha'⟩:=(Ring.raise Cd (Nat.le_max_left B (w' d).heap.size)).own (a':=g' d) hi (hB₀ _ (Nat.le_max_right B (w' d).heap.size))
     obtain ⟨N,gs2,a2,w2,sl2,T2,q2,B2,r,hsz,h2,hS,⟨hle,hle2,hle3⟩,C2⟩:=ih d _ sl' _ q _ ha' C'
     have hB1':w.heap.size≤(w' d).heap.size:=hB1
     refine ⟨N+1,gs2,a2,w2,sl2,T2,q2,B2,?_,by simpa using hsz,h2,hS,⟨by omega,by omega,Nat.le_trans hB1' hle3⟩,C2⟩
     have hrt:=runT_crowd_go (P:=P) (sl:=sl') hi (e d)
     simp only [runNT,hst',hrt]
     exact r
    ·obtain ⟨gs',ops,q',hrt,hsz',hsp,_,_,C',hlt⟩:=TokCore.by_step (sl:=sl') (fun t u i=>Knows.app u) Cd hi ei hg
      (fun y gy hy hgy=>by subst hy;rw [ha] at hgy;obtain rfl:=Option.some.inj hgy;exact again_of_running (.inl hrun) _) (fun hD=>hD.elim)
      (fun s g₂ _ _=>⟨fun hD=>hD,fun y gy c hy hgy _=>by subst hy;rw [ha] at hgy;obtain rfl:=Option.some.inj hgy;exact offersAt_of_not_blocked (by rw [hrun];simp) _ _⟩)
     obtain ⟨N,gs2,a2,w2,sl2,T2,q2,B2,r,hsz,h2,hS,hle,C2⟩:=ihm (sumTo gs'.size q') (by rw [hsz'];omega) gs' sl' _ q' B d rfl (by rw [hsp h rfl];exact ha) C'
     refine ⟨N+1,gs2,a2,w2,sl2,T2,q2,B2,?_,hsz.trans hsz',h2,hS,hle,C2⟩
     simp only [runNT,hst',hrt]
     exact r
  intro gs sl T q B ha C
  exact key _ gs sl T q B w.drawn rfl ha C
end
end Go.Lift
namespace Go.Lift
open Go.Conc
section
variable {P:Program} {wr:Bool} {L:FuncId→Prop}
theorem calm_results (fn:Func) (tmps:Array Value):calm P wr (results fn tmps):=by
 unfold results
 refine calm_bind (calm_arrayMapM (fun r=>?_) _) fun _=>calm_pure _
 split
 ·exact calm_pure _
 ·exact calm_bind (calm_asAddr _) fun _=>calm_loadVar _ _
def plainCall (fs:List FuncId):Op→Bool
 |.call { callee:=.value (.func f),.. }=>fs.contains f
 |_=>false
def plainCode (P:Program) (wr:Bool) (fs:List FuncId):Code→Bool
 |.skip|.ret|.label _|.exit _=>true
 |.seq a b=>plainCode P wr fs a&&plainCode P wr fs b
 |.cond _ a b=>plainCode P wr fs a&&plainCode P wr fs b
 |.block _ c=>plainCode P wr fs c
 |.loop c=>plainCode P wr fs c
 |.region _ ops _=>ops.all fun o=>plainOp P wr o.op||plainCall fs o.op
 |_=>false
def Callable (P : Program) (L : FuncId → Prop) (f : FuncId) : Prop := L f ∧ ∃ fn, P.funcs[f]? = some fn ∧ (fn.name == "runtime.NumGoroutine") = false ∧ fn.body.isNone = false
theorem fineOp_of {fs:List FuncId} (hfs:∀ f∈fs,Callable P L f) {o:Oper} (h:(plainOp P wr o.op||plainCall fs o.op)=true):fineOp P wr L o:=by
 rcases Bool.or_eq_true_iff.1 h with h|h
 ·exact fine_plain h
 ·unfold plainCall at h
  split at h
  ·rename_i f args ats e
   obtain ⟨hL,fn,h1,h2,h3⟩:=hfs f (by simpa using h)
   exact fine_call e h1 h2 h3 hL
  ·cases h
theorem fineCode_of {fs:List FuncId} (hfs:∀ f∈fs,Callable P L f):∀ {c:Code},plainCode P wr fs c=true→fineCode P wr L c:=by
 intro c
 induction c with
 |seq a b iha ihb=>intro h;simp only [plainCode,Bool.and_eq_true] at h;exact ⟨iha h.1,ihb h.2⟩
 |cond o a b iha ihb=>intro h;simp only [plainCode,Bool.and_eq_true] at h;exact ⟨iha h.1,ihb h.2⟩
 |block id c ih=>intro h;exact ih h
 |loop c ih=>intro h;exact ih h
 |region id ops d =>
  intro h
  simp only [plainCode,Array.all_eq_true_iff_forall_mem] at h
  exact fun o ho=>fineOp_of hfs (h o ho)
 |skip=>intro _;trivial
 |ret=>intro _;trivial
 |label l=>intro _;trivial
 |exit id=>intro _;trivial
 |_=>intro h;simp [plainCode] at h
theorem fineFn_of {fs:List FuncId} (hfs:∀ f∈fs,Callable P L f) {f:FuncId} {fn:Func} {c:Code} (hf:P.funcs[f]? = some fn) (hb:fn.body=some c) (h:plainCode P wr fs c=true):fineFn P wr L f :=
 ⟨fn,c,hf,hb,fineCode_of hfs h,calm_results fn⟩
end
section
variable {P:Program} {main:Bool} {D:World→World→Array Event→Prop} {Stop:Goroutine→World→Prop} {b:Frame} {a:Act} {k:List Item} {cs:List Frame} {w:World}
theorem goesI_skip (hD:∀ w,D w w #[]) (h:GoesI P main D Stop (G (b.at a k) cs) w):GoesI P main D Stop (G (b.at a (.code .skip :: k)) cs) w:=.ctl rfl (fun _=>stepG_skip) hD h
theorem goesI_inBlock (hD:∀ w,D w w #[]) {id:Nat} (h:GoesI P main D Stop (G (b.at a k) cs) w):GoesI P main D Stop (G (b.at a (.inBlock id :: k)) cs) w:=.ctl rfl (fun _=>stepG_inBlock) hD h
theorem goesI_seq (hD:∀ w,D w w #[]) {x y:Code} (h:GoesI P main D Stop (G (b.at a (.code x :: .code y :: k)) cs) w):GoesI P main D Stop (G (b.at a (.code (.seq x y) :: k)) cs) w:=.ctl rfl (fun _=>stepG_seq) hD h
theorem goesI_cond (hD:∀ w,D w w #[]) {c:Operand} {x y:Code} {t:Bool} (hc:a.eval c=.bool t) (h:GoesI P main D Stop (G (b.at a (.code (if t then x else y) :: k)) cs) w):GoesI P main D Stop (G (b.at a (.code (.cond c x y) :: k)) cs) w :=
 .ctl rfl (fun _=>stepG_cond hc) hD h
theorem goesI_block (hD:∀ w,D w w #[]) {id:Nat} {c:Code} (h:GoesI P main D Stop (G (b.at a (.code c :: .inBlock id :: k)) cs) w):GoesI P main D Stop (G (b.at a (.code (.block id c) :: k)) cs) w:=.ctl rfl (fun _=>stepG_block) hD h
theorem goesI_loop (hD:∀ w,D w w #[]) {c:Code} (h:GoesI P main D Stop (G (b.at a (.code c :: .inLoop c :: k)) cs) w):GoesI P main D Stop (G (b.at a (.code (.loop c) :: k)) cs) w:=.ctl rfl (fun _=>stepG_loop) hD h
theorem goesI_inLoop (hD:∀ w,D w w #[]) {c:Code} (h:GoesI P main D Stop (G (b.at a (.code c :: .inLoop c :: k)) cs) w):GoesI P main D Stop (G (b.at a (.inLoop c :: k)) cs) w:=.ctl rfl (fun _=>stepG_inLoop) hD h
theorem goesI_exit (hD:∀ w,D w w #[]) {id:Nat} {k':List Item} (he:exitTo id k=some k') (h:GoesI P main D Stop (G (b.at a k') cs) w):GoesI P main D Stop (G (b.at a (.code (.exit id) :: k)) cs) w:=.ctl rfl (fun _=>stepG_exit he) hD h
theorem goesI_region (hD:∀ w,D w w #[]) {id:Nat} {ops:Array Oper} (h:GoesI P main D Stop (G (b.at a (.inRegion ops (List.range ops.size) :: k)) cs) w):GoesI P main D Stop (G (b.at a (.code (.region id ops false) :: k)) cs) w:=.ctl rfl (fun _=>stepG_region) hD h
theorem goesI_regionEnd (hD:∀ w,D w w #[]) {ops:Array Oper} (h:GoesI P main D Stop (G (b.at a k) cs) w):GoesI P main D Stop (G (b.at a (.inRegion ops [] :: k)) cs) w:=.ctl rfl (fun _=>stepG_region_end) hD h
theorem goesI_end (hD:∀ w,D w w #[]) (h:GoesI P main D Stop (G { b.at a [] with mode:=.returning } cs) w):GoesI P main D Stop (G (b.at a []) cs) w:=.ctl rfl (fun _=>stepG_end) hD h
theorem goesI_value {ops:Array Oper} {i:Nat} {rest:List Nat} {o:Oper} {v:Nat→Value} {w':Nat→World} (ho:ops[i]? = some o) (hw:Region.wanted o (yielded ops a.tmps)=true) (hk:b.kind≠.early)
 (hr:∀ d,(execOp a.eval o).run P (w.at d)=.ok (.value (v d)) (w' d)) (hD:∀ d,D (w.at d) (w' d) (listed P b.fn a o (w.at d)))
 (h:∀ d,GoesI P main D Stop (G (b.at (a.put o.dst (v d)) (.inRegion ops rest :: k)) cs) (w' d)):GoesI P main D Stop (G (b.at a (.inRegion ops (i :: rest) :: k)) cs) w :=
 .step rfl _ w' (fun d=>listed P b.fn a o (w.at d)) (fun d=>stepG_value ho hw hk (hr d)) hD h
theorem goesI_enter {ops:Array Oper} {i:Nat} {rest:List Nat} {o:Oper} {f:FuncId} {args:Array Value} {fn:Func} {c:Code} (ho:ops[i]? = some o) (hw:Region.wanted o (yielded ops a.tmps)=true) (hk:b.kind≠.early)
 (hr:∀ w,(execOp a.eval o).run P w=.ok (.enter f args) w) (hl:∀ w,listed P b.fn a o w=#[]) (hD:∀ w,D w w #[]) (hf:P.funcs[f]? = some fn) (hb:fn.body=some c)
 (h:GoesI P main D Stop (G ((base f).at { tmps:=args++Array.replicate (fn.ntmps - args.size) undef,defers:=[] } [.code c]) (b.at a (.inRegion ops (i :: rest) :: k) :: cs)) w):GoesI P main D Stop (G (b.at a (.inRegion ops (i :: rest) :: k)) cs) w:=by
 refine .ctl rfl (fun w=>?_) hD h
 rw [stepG_enter ho hw hk (hr w),hl w,enter_at args hf hb]
theorem goesI_leave {ops:Array Oper} {i:Nat} {rest:List Nat} {o:Oper} {fn:Func} {todo:List Item} {bc:Frame} {ac:Act} {v:Value} (hn:b.kind=.normal) (hd:a.defers=[]) (hf:P.funcs[b.fn]? = some fn)
 (hr:∀ w,(results fn a.tmps).run P w=.ok v w) (he:∀ w,(results fn a.tmps).events P w #[]=#[]) (ho:ops[i]? = some o) (hD:∀ w,D w w #[])
 (h:GoesI P main D Stop (G (bc.at (ac.put o.dst v) (.inRegion ops rest :: k)) cs) w):GoesI P main D Stop (G { b.at a todo with mode:=.returning } (bc.at ac (.inRegion ops (i :: rest) :: k) :: cs)) w:=by
 refine .ctl rfl (fun w=>?_) hD h
 have hfin:(bc.at ac (.inRegion ops (i :: rest) :: k)).finish v=bc.at (ac.put o.dst v) (.inRegion ops rest :: k):=by rw [Frame.finish_at,ho];rfl
 rw [stepG_leave hn hd hf (hr w) (he w),hfin]
theorem goesI_plain {z:Nat→Option Nat} {wr:Bool} {L:FuncId→Prop} {I:World→Prop} (hE:∀ fr cs dy g w,∃ o w',early P fr cs dy g w=.ended o w') (hL:∀ g,L g→fineFn P wr L g) (hI:∀ v v',Keeps wr v v'→I v→I v')
 (hD:∀ v v' w w' es,I v→Rel z v w→Out z wr v v' w w'→(∀ e∈es,Okay wr e∧Spares z w' e)→D w w' es) {c:Code} {Q:Act→World→Prop} {v:World} (hvw:Rel z v w) (hc:fineCode P wr L c) (ha:a.defers=[]) (hb:b.kind≠.early) (hi:I v)
 (hwp:∀ τ,c.wp P (fun e a w=>e=.normal∧Q a w) a (onTape v τ 0))
 (h:∀ a' v' w',Q a' v'→Rel z v' w'→I v'→a'.defers=[]→GoesI P main D Stop (G (b.at a' k) cs) w'):GoesI P main D Stop (G (b.at a (.code c :: k)) cs) w:=by
 refine (lift_code (P:=P) (wr:=wr) (L:=L) (D:=D) (I:=I) (main:=main) (b:=b) (k:=k) (cs:=cs) hE hL hI hD hvw hc ha hb hi hwp (fun e a w h=>.inl h.1)).then ?_
 rintro g w' ⟨a',v',hr,hiv,hd,⟨⟨_,hq⟩,rfl⟩|⟨⟨hq,_⟩,_⟩⟩
 ·exact h a' v' w' hq hr hiv hd
 ·cases hq
end
def Closed (md:Region.Mode) (ops:Array Oper) (listed:Array Bool):Prop :=
 ∀ (s:Nat) (o:Oper),ops[s]? = some o→listed.getD s false=true→∀ e∈o.after.toList,Region.binds md e=true→listed.getD e.on false=true
def leadsOn (md:Region.Mode) (ops:Array Oper) (n:Nat):Bool :=
 (List.range n).all fun q=>(List.range (n+1)).any fun s=>decide (q<s)&&((ops[s]?).map fun o=>o.after.toList.any fun e=>Region.binds md e&&e.on==q).getD false
theorem leadsOn_spec {md:Region.Mode} {ops:Array Oper} {n:Nat} (h:leadsOn md ops n=true) {q:Nat} (hq:q<n):∃ s o e,q<s∧s≤n∧ops[s]? = some o∧e∈o.after.toList∧Region.binds md e=true∧e.on=q:=by
 unfold leadsOn at h
 rw [List.all_eq_true] at h
 have:=h q (List.mem_range.2 hq)
 rw [List.any_eq_true] at this
 obtain ⟨s,hs,h2⟩:=this
 rw [Bool.and_eq_true] at h2
 obtain ⟨h3,h4⟩:=h2
 cases ho:ops[s]? with
 |none=>rw [ho] at h4;simp at h4
 |some o =>
  rw [ho] at h4
  simp only [Option.map_some,Option.getD_some,List.any_eq_true,Bool.and_eq_true,beq_iff_eq] at h4
  obtain ⟨e,he,hb,hon⟩:=h4
  exact ⟨s,o,e,of_decide_eq_true h3,by have:=List.mem_range.1 hs;omega,ho,he,hb,hon⟩
theorem all_listed {md:Region.Mode} {ops:Array Oper} {n:Nat} (hl:leadsOn md ops n=true) {listed:Array Bool} (hc:Closed md ops listed) {o:Oper} (ho:ops[n]? = some o)
 (hr:∀ e∈o.after.toList,Region.binds md e=true→listed.getD e.on false=true):∀ m q,n - q=m→q<n→listed.getD q false=true:=by
 intro m
 induction m using Nat.strongRecOn with
 |ind m ih =>
  intro q hm hq
  obtain ⟨s,os,e,h1,h2,h3,h4,h5,h6⟩:=leadsOn_spec hl hq
  by_cases hs:s=n
  ·subst hs
   rw [ho] at h3
   cases h3
   rw [←h6];exact hr e h4 h5
  ·have:=ih (n - s) (by omega) s rfl (by omega)
   rw [←h6];exact hc s os h3 this e h4 h5
theorem mem_ready {md:Region.Mode} {ops:Array Oper} {listed:Array Bool} {i:Nat} (h:i∈Region.ready md ops listed) :
 listed.getD i true=false∧∃ o,ops[i]? = some o∧∀ e∈o.after.toList,Region.binds md e=true→listed.getD e.on false=true:=by
 unfold Region.ready at h
 rw [List.mem_filter] at h
 obtain ⟨_,h⟩:=h
 rw [Bool.and_eq_true] at h
 obtain ⟨h1,h2⟩:=h
 refine ⟨by simpa using h1,?_⟩
 cases ho:ops[i]? with
 |none=>rw [ho] at h2;simp at h2
 |some o =>
  rw [ho] at h2
  simp only [Option.map_some,Option.getD_some] at h2
  refine ⟨o,rfl,fun e he hb=>?_⟩
  rw [←Array.all_toList,List.all_eq_true] at h2
  have:=h2 e he
  rw [hb] at this
  simpa using this
def inText (md:Region.Mode) (ops:Array Oper) (n:Nat):Bool :=
 (List.range ops.size).all fun i=>((ops[i]?).map fun o=>(o.after.toList.all fun e=>decide (e.on<i))&&(decide (i≤n)||o.after.toList.any fun e=>Region.binds md e&&decide (n≤e.on))).getD false
theorem inText_spec {md:Region.Mode} {ops:Array Oper} {n:Nat} (h:inText md ops n=true) {i:Nat} {o:Oper} (ho:ops[i]? = some o):(∀ e∈o.after.toList,e.on<i)∧(n<i→∃ e∈o.after.toList,Region.binds md e=true∧n≤e.on):=by
 unfold inText at h
 rw [List.all_eq_true] at h
 have hi:i<ops.size:=(Array.getElem?_eq_some_iff.1 ho).1
 have:=h i (List.mem_range.2 hi)
 rw [ho] at this
 simp only [Option.map_some,Option.getD_some,Bool.and_eq_true,List.all_eq_true,decide_eq_true_eq,Bool.or_eq_true,List.any_eq_true] at this
 obtain ⟨h1,h2⟩:=this
 refine ⟨h1,fun hn=>?_⟩
 rcases h2 with h2|⟨e,he,hb,hon⟩
 ·omega
 ·exact ⟨e,he,hb,hon⟩
structure Agr (ops:Array Oper) (n:Nat) (val:Nat→Value) (a0:Act) (listed:Array Bool) (a:Act):Prop where
 defers:a.defers=a0.defers
 size:a.tmps.size=a0.tmps.size
 done:∀ (j:Nat) (o:Oper) (t:Tmp),j<n→ops[j]? = some o→listed.getD j false=true→o.dst=some t→a.tmps[t]? = some (val j)
 else_:∀ t:Tmp,(∀ (j:Nat) (o:Oper),j<n→ops[j]? = some o→listed.getD j false=true→o.dst≠some t)→a.tmps[t]? = a0.tmps[t]?
theorem getD_set (l:Array Bool) (i j:Nat) (hi:i<l.size):(l.setIfInBounds i true).getD j false=if j=i then true else l.getD j false:=by
 simp only [Array.getD_eq_getD_getElem?,Array.getElem?_setIfInBounds]
 by_cases h:j=i
 ·subst h;simp [hi]
 ·rw [if_neg h,if_neg (fun e=>h e.symm)]
theorem getD_true_false {l:Array Bool} {i:Nat} (h:l.getD i true=false):i<l.size∧l.getD i false=false:=by
 simp only [Array.getD_eq_getD_getElem?] at *
 cases e:l[i]? with
 |none=>rw [e] at h;cases h
 |some x=>rw [e] at h;exact ⟨(Array.getElem?_eq_some_iff.1 e).1,h⟩
section
variable {ops:Array Oper} {n:Nat} {val:Nat→Value} {a0:Act}
theorem Agr.put (hdist:∀ (i j:Nat) (oi oj:Oper) (t:Tmp),i<n→j<n→ops[i]? = some oi→ops[j]? = some oj→oi.dst=some t→oj.dst=some t→i=j)
 (hin:∀ (i:Nat) (o:Oper) (t:Tmp),i<n→ops[i]? = some o→o.dst=some t→t<a0.tmps.size) {listed:Array Bool} {a:Act} (h:Agr ops n val a0 listed a) {i:Nat} {o:Oper} (hi:i<n) (ho:ops[i]? = some o) (hs:i<listed.size) :
 Agr ops n val a0 (listed.setIfInBounds i true) (a.put o.dst (val i)):=by
 cases hd:o.dst with
 |none =>
  refine ⟨h.defers,h.size,fun j oj t hj hoj hl ht=>?_,fun t ht=>?_⟩
  ·rw [getD_set _ _ _ hs] at hl
   by_cases e:j=i
   ·subst e;rw [ho] at hoj;cases hoj;rw [hd] at ht;cases ht
   ·rw [if_neg e] at hl;exact h.done j oj t hj hoj hl ht
  ·exact h.else_ t fun j oj hj hoj hl=>ht j oj hj hoj (by rw [getD_set _ _ _ hs];split;rfl;exact hl)
 |some d =>
  have hdb:d<a.tmps.size:=by rw [h.size];exact hin i o d hi ho hd
  refine ⟨h.defers,by simp [Act.put,h.size],fun j oj t hj hoj hl ht=>?_,fun t ht=>?_⟩
  ·rw [getD_set _ _ _ hs] at hl
   by_cases e:j=i
   ·subst e
    rw [ho] at hoj;cases hoj
    rw [hd] at ht;cases ht
    simp [Act.put,hdb]
   ·rw [if_neg e] at hl
    have hne:d≠t:=fun e'=>e (hdist j i oj o t hj hi hoj ho ht (e'▸hd))
    simp only [Act.put]
    rw [Array.getElem?_setIfInBounds_ne hne]
    exact h.done j oj t hj hoj hl ht
  ·have hne:d≠t:=fun e=>ht i o hi ho (by rw [getD_set _ _ _ hs,if_pos rfl]) (e▸hd)
   simp only [Act.put]
   rw [Array.getElem?_setIfInBounds_ne hne]
   exact h.else_ t fun j oj hj hoj hl=>ht j oj hj hoj (by rw [getD_set _ _ _ hs];split;rfl;exact hl)
theorem Agr.one {l l':Array Bool} {a a':Act} (h:Agr ops n val a0 l a) (h':Agr ops n val a0 l' a') (hl:∀ j,j<n→l.getD j false=true) (hl':∀ j,j<n→l'.getD j false=true):a=a':=by
 have ht:a.tmps=a'.tmps:=by
  apply Array.ext_getElem?
  intro t
  by_cases hx:∃ j o,j<n∧ops[j]? = some o∧o.dst=some t
  ·obtain ⟨j,o,hj,ho,hd⟩:=hx
   rw [h.done j o t hj ho (hl j hj) hd,h'.done j o t hj ho (hl' j hj) hd]
  ·rw [h.else_ t fun j o hj ho _ hd=>hx ⟨j,o,hj,ho,hd⟩,h'.else_ t fun j o hj ho _ hd=>hx ⟨j,o,hj,ho,hd⟩]
 have hd:a.defers=a'.defers:=h.defers.trans h'.defers.symm
 cases a;cases a';simp_all
end
def unl (l:Array Bool):Nat→Nat
 |0=>0
 |n+1=>unl l n+if l.getD n false=true then 0 else 1
theorem unl_same {l:Array Bool} {i:Nat} (hs:i<l.size):∀ {n:Nat},n≤i→unl (l.setIfInBounds i true) n=unl l n
 |0,_=>rfl
 |n+1,h=>by
  unfold unl
  have e:(l.setIfInBounds i true).getD n false=l.getD n false:=by rw [getD_set _ _ _ hs,if_neg (by omega)]
  rw [unl_same hs (by omega),e]
theorem unl_set {l:Array Bool} {i:Nat} (hs:i<l.size) (hf:l.getD i false=false):∀ {n:Nat},i<n→unl (l.setIfInBounds i true) n+1=unl l n
 |0,h=>by omega
 |n+1,h=>by
  unfold unl
  by_cases e:i=n
  ·subst e
   rw [unl_same hs (Nat.le_refl _),getD_set _ _ _ hs,if_pos rfl,hf]
   simp
  ·have:=unl_set hs hf (n:=n) (by omega)
   have e2:(l.setIfInBounds i true).getD n false=l.getD n false:=by rw [getD_set _ _ _ hs,if_neg (fun x=>e x.symm)]
   rw [e2]
   omega
theorem unl_zero {l:Array Bool}:∀ {n:Nat},unl l n=0→∀ j,j<n→l.getD j false=true
 |0,_,j,hj=>by omega
 |n+1,h,j,hj=>by
  unfold unl at h
  by_cases e:l.getD n false=true
  ·by_cases ej:j=n
   ·subst ej;exact e
   ·exact unl_zero (n:=n) (by omega) j (by omega)
  ·rw [if_neg e] at h;omega
theorem unl_least {l:Array Bool}:∀ {n:Nat},unl l n≠0→∃ q,q<n∧l.getD q false=false∧∀ j,j<q→l.getD j false=true
 |0,h=>absurd rfl h
 |n+1,h=>by
  by_cases h0:unl l n=0
  ·unfold unl at h
   rw [h0] at h
   by_cases e:l.getD n false=true
   ·rw [if_pos e] at h;omega
   ·exact ⟨n,by omega,Bool.eq_false_iff.2 e,unl_zero h0⟩
  ·obtain ⟨q,h1,h2,h3⟩:=unl_least h0
   exact ⟨q,by omega,h2,h3⟩
def listedN (m n:Nat):Array Bool:=(Array.range m).map fun j=>decide (j<n)
theorem listedN_get {m n j:Nat} (hj:j<m):(listedN m n)[j]? = some (decide (j<n)):=by
 simp [listedN,hj]
section
variable {P:Program} {main:Bool} {D:World→World→Array Event→Prop} {Stop:Goroutine→World→Prop} {b:Frame} {k:List Item} {cs:List Frame}
variable {md:Region.Mode} {ops:Array Oper} {n:Nat} {val:Nat→Value} {a0:Act}
theorem quiet_first (J:World→Prop) (hlead:leadsOn md ops n=true) (htext:inText md ops n=true) {on:Oper} (hon:ops[n]? = some on)
 (hdist:∀ (i j:Nat) (oi oj:Oper) (t:Tmp),i<n→j<n→ops[i]? = some oi→ops[j]? = some oj→oi.dst=some t→oj.dst=some t→i=j)
 (hin:∀ (i:Nat) (o:Oper) (t:Tmp),i<n→ops[i]? = some o→o.dst=some t→t<a0.tmps.size)
 (hQ:∀ (i:Nat) (o:Oper) (rest:List Nat) (listed:Array Bool) (a:Act) (w:World),i<n→ops[i]? = some o→(∀ e∈o.after.toList,Region.binds md e=true→listed.getD e.on false=true)→Agr ops n val a0 listed a→J w →
   (∀ w',J w'→GoesI P main D Stop (G (b.at (a.put o.dst (val i)) (.inRegion ops rest :: k)) cs) w')→GoesI P main D Stop (G (b.at a (.inRegion ops (i :: rest) :: k)) cs) w)
 (aF:Act) (hF:Agr ops n val a0 (listedN ops.size n) aF)
 (hN:∀ t w,J w→GoesI P main D Stop (G (b.at aF (.inRegion ops (Region.linearise.go md ops (ops.size - n) t (listedN ops.size n) []) :: k)) cs) w) :
 ∀ (m t:Nat) (listed:Array Bool) (a:Act) (w:World),unl listed n=m→listed.size=ops.size→(∀ j,n≤j→listed.getD j false=false)→Closed md ops listed→Agr ops n val a0 listed a→J w →
   GoesI P main D Stop (G (b.at a (.inRegion ops (Region.linearise.go md ops (ops.size - n+m) t listed []) :: k)) cs) w:=by
 have hns:n<ops.size:=(Array.getElem?_eq_some_iff.1 hon).1
 intro m
 induction m with
 |zero =>
  intro t listed a w hm hsz hge _ hA hJ
  have hall:=unl_zero hm
  have e:listed=listedN ops.size n:=by
   apply Array.ext_getElem?
   intro j
   by_cases hj:j<ops.size
   ·rw [listedN_get hj]
    have hjl:j<listed.size:=by omega
    have hg:listed.getD j false=listed[j]:=by rw [Array.getD_eq_getD_getElem?,Array.getElem?_eq_getElem hjl];rfl
    rw [Array.getElem?_eq_getElem hjl,←hg]
    by_cases hjn:j<n
    ·rw [hall j hjn];simp [hjn]
    ·rw [hge j (by omega)];simp [hjn]
   ·rw [Array.getElem?_eq_none (by omega),Array.getElem?_eq_none (by simp [listedN];omega)]
  subst e
  have ea:=hA.one hF hall hall
  subst ea
  exact hN t w hJ
 |succ m ih =>
  intro t listed a w hm hsz hge hcl hA hJ
  rw [show ops.size - n+(m+1)=(ops.size - n+m)+1 by omega]
  simp only [Region.linearise.go]
  change GoesI P main D Stop (G (b.at a (.inRegion ops (match (Region.ready md ops listed)[t % (Region.ready md ops listed).length]? with
   |some i=>Region.linearise.go md ops (ops.size - n+m) (t / (Region.ready md ops listed).length) (listed.setIfInBounds i true) [i]
   |none=>[].reverse) :: k)) cs) w
  cases hi:(Region.ready md ops listed)[t % (Region.ready md ops listed).length]? with
  |none =>
   exfalso
   obtain ⟨q,hq1,hq2,hq3⟩:=unl_least (l:=listed) (n:=n) (by omega)
   have hqs:q<ops.size:=by omega
   have hmem:q∈Region.ready md ops listed:=by
    unfold Region.ready
    rw [List.mem_filter]
    refine ⟨List.mem_range.2 hqs,?_⟩
    have hgt:listed.getD q true=false:=by
     rw [Array.getD_eq_getD_getElem?,Array.getElem?_eq_getElem (by omega)] at hq2 ⊢
     exact hq2
    rw [hgt,Array.getElem?_eq_getElem hqs]
    simp only [Bool.not_false,Option.map_some,Option.getD_some,Bool.true_and,←Array.all_toList,List.all_eq_true]
    intro e he
    rw [hq3 e.on ((inText_spec htext (Array.getElem?_eq_getElem hqs)).1 e he)]
    simp
   have hpos:0<(Region.ready md ops listed).length:=List.length_pos_of_mem hmem
   have:=List.getElem?_eq_none_iff.1 hi
   have:=Nat.mod_lt t hpos
   omega
  |some i =>
   obtain ⟨h1,o,ho,hdep⟩:=mem_ready (List.mem_of_getElem? hi)
   obtain ⟨hil,hif⟩:=getD_true_false h1
   have hin':i<n:=by
    rcases Nat.lt_trichotomy i n with h|h|h
    ·exact h
    ·subst h
     obtain ⟨q,hq1,hq2,_⟩:=unl_least (l:=listed) (n:=i) (by omega)
     have:=all_listed hlead hcl ho hdep (i - q) q rfl hq1
     rw [hq2] at this;cases this
    ·obtain ⟨e,he,hb,hge'⟩:=(inText_spec htext ho).2 h
     have:=hdep e he hb
     rw [hge _ hge'] at this;cases this
   simp only []
   rw [linearise_go_acc,List.reverse_singleton,List.singleton_append]
   refine hQ i o _ listed a w hin' ho hdep hA hJ fun w' hJ'=>?_
   refine ih _ _ _ _ ?_ (by simpa using hsz) (fun j hj=>?_) (fun s os hos hls e he hb=>?_) (hA.put hdist hin hin' ho hil) hJ'
   ·have:=unl_set hil hif hin';omega
   ·rw [getD_set _ _ _ hil,if_neg (by omega)];exact hge j hj
   ·rw [getD_set _ _ _ hil]
    split
    ·rfl
    ·rw [getD_set _ _ _ hil] at hls
     by_cases hsi:s=i
     ·subst hsi
      rw [ho] at hos;cases hos
      exact hdep e he hb
     ·rw [if_neg hsi] at hls
      exact hcl s os hos hls e he hb
theorem goesI_region_quiet (J:World→Prop) (hmix:P.follows .mixedOrders=true) (hJd:∀ w d,J w→J (w.at d)) (hDd:∀ w:World,D w { w with drawn:=w.drawn+1 } #[])
 (hlead:leadsOn .any ops n=true) (htext:inText .any ops n=true) {on:Oper} (hon:ops[n]? = some on)
 (hdist:∀ (i j:Nat) (oi oj:Oper) (t:Tmp),i<n→j<n→ops[i]? = some oi→ops[j]? = some oj→oi.dst=some t→oj.dst=some t→i=j)
 (hin:∀ (i:Nat) (o:Oper) (t:Tmp),i<n→ops[i]? = some o→o.dst=some t→t<a0.tmps.size)
 (hQ:∀ (i:Nat) (o:Oper) (rest:List Nat) (listed:Array Bool) (a:Act) (w:World),i<n→ops[i]? = some o→(∀ e∈o.after.toList,Region.binds .any e=true→listed.getD e.on false=true)→Agr ops n val a0 listed a→J w →
   (∀ w',J w'→GoesI P main D Stop (G (b.at (a.put o.dst (val i)) (.inRegion ops rest :: k)) cs) w')→GoesI P main D Stop (G (b.at a (.inRegion ops (i :: rest) :: k)) cs) w)
 (aF:Act) (hF:Agr ops n val a0 (listedN ops.size n) aF)
 (hN:∀ t w,J w→GoesI P main D Stop (G (b.at aF (.inRegion ops (Region.linearise.go .any ops (ops.size - n) t (listedN ops.size n) []) :: k)) cs) w) {id:Nat} {w:World} (hw:J w) :
 GoesI P main D Stop (G (b.at a0 (.code (.region id ops true) :: k)) cs) w:=by
 have hns:n<ops.size:=(Array.getElem?_eq_some_iff.1 hon).1
 refine .step rfl (fun d=>G (b.at a0 (.inRegion ops (Region.schedule (P.follows .mixedOrders) ops ((w.at d).tape (w.at d).drawn (.order b.fn id))) :: k)) cs) (fun d=>{ w.at d with drawn:=(w.at d).drawn+1 }) (fun _=>#[]) (fun d=>stepG_region_draw) (fun d=>hDd _) (fun d=>?_)
 simp only [Region.schedule,hmix,Bool.true_or,if_true,Region.linearise]
 have hu:∀ m,unl (Array.replicate ops.size false) m=m:=fun m=>by
  induction m with
  |zero=>rfl
  |succ m ih =>
   unfold unl
   rw [ih,if_neg]
   simp only [Array.getD_eq_getD_getElem?,Array.getElem?_replicate]
   split<;>simp
 have hff:∀ j,(Array.replicate ops.size false).getD j false=false:=fun j=>by
  simp only [Array.getD_eq_getD_getElem?,Array.getElem?_replicate]
  split<;>rfl
 have key:=quiet_first (P:=P) (main:=main) (D:=D) (Stop:=Stop) (b:=b) (k:=k) (cs:=cs) J hlead htext hon hdist hin hQ aF hF hN n ((w.at d).tape (w.at d).drawn (.order b.fn id)) (Array.replicate ops.size false) a0 { w.at d with drawn:=(w.at d).drawn+1 } (hu n) (by simp) (fun j _=>hff j)
  (fun s o _ hs=>by rw [hff] at hs;cases hs) ⟨rfl,rfl,fun j o t _ _ hl=>by (rw [hff] at hl;cases hl),fun _ _=>rfl⟩ (hJd w (d+1) hw)
 rw [show ops.size - n+n=ops.size by omega] at key
 exact key
end
end Go.Lift
namespace Go.Lift
open Go.Conc
open Go.ConcN (sumTo upd sumTo_upd upd_ne upd_same)
section
variable {P:Program} {K:World→Prop} {Still:Loc→Prop} {Mem:Nat→Prop} {Inb:Nat→Option Seat} {h:Nat}
def AtGive (P:Program) (K:World→Prop) (Still:Loc→Prop) (h c:Nat) (v:Value) (o:Option Seat) (F:World→Prop) (a:Goroutine) (w:World):Prop :=
 a.status=.running∧F w∧∃ (a₂:Goroutine) (z:Value) (es:Array Event) (nh B₀:Nat),B₀≤w.heap.size∧(∀ d,stepG P (h==0) a (w.at d)=.comm a₂ #[scase c v z] true .send (w.at d) es)∧(∀ B,B₀≤B→∀ e∈es,EvHd Still B e) ∧
  ∀ B,B₀≤B→∀ T,Deaf T h=0→Idle P K Still B T h nh (Go.Conc.served a₂ undef) o
theorem pass_on (hKat:∀ w d,K w→K (w.at d)) {o:Option Seat} {F:World→Prop} {D:World→World→Array Event→Prop}
 (hseat:∀ s,o=some s→s.Wf∧(∀ i s' c,i≠h→Inb i=some s'→s'.has c→¬ s.has c)∧∀ w,F w→∀ c,s.has c→∃ cap k,w.heap[c]? = some (.chan cap #[] false k k false))
 (hKc:∀ w i s c cap buf cl a b tm,upd Inb h o i=some s→s.has c→K w→K (w.setChan c cap buf cl a b tm))
 (hKc0:∀ w i s c cap buf cl a b tm,Inb i=some s→s.has c→K w→K (w.setChan c cap buf cl a b tm))
 (hD:∀ w w' es,D w w' es→K w→(∀ i s c,Inb i=some s→s.has c→∃ o,w.heap[c]? = some o)→w.heap.size≤w'.heap.size∧∀ B,w'.heap.size≤B→DH K Still B Inb w w' es)
 {a:Goroutine} {w:World} {j c kk:Nat} {s:Seat} {v z:Value} (hjh:j≠h) (hj:Inb j=some s) (hk:s.cases[kk]? = some (rcase c z)) (hMh:Mem h)
 (hG:GoesI P (h==0) D (AtGive P K Still h c v o F) a w) (gs:Array Goroutine) (sl:Option (Nat×Nat)) (T:Trace) (q:Nat→Nat) (B:Nat) (hjlt:j<gs.size) (ha:gs[h]? = some a) (C:Ring P K Still B Mem Inb h T gs w q) :
 ∃ (N:Nat) (gs':Array Goroutine) (w':World) (g₂:Goroutine) (d k cap:Nat) (sl':Option (Nat×Nat)) (T':Trace) (q':Nat→Nat) (B':Nat),
   runNT P N (crowd gs w sl) T=(.next (crowd gs' ((w'.at d).setChan c cap #[] false (k+1) (k+1) false) sl'),T')∧F w'∧gs'.size=gs.size∧gs'[j]? = some (Go.Conc.served g₂ (commResult s.cases s.shape kk v true))∧s.home g₂∧w'.heap[c]? = some (.chan cap #[] false k k false)∧(B≤B'∧B'≤max B w'.heap.size∧w.heap.size≤w'.heap.size) ∧
   Ring P K Still B' (fun g=>Mem g∧(upd Inb h o g≠none∨g=j)) (upd Inb h o) j T' gs' ((w'.at d).setChan c cap #[] false (k+1) (k+1) false) q':=by
 obtain ⟨N1,gs1,a1,w1,sl1,T1,q1,B1,r1,z1,h1,⟨hrun,hF,a₂,zz,es,nh,B₀,hB₀,hsend,hes,hafter⟩,⟨hB1,hB1b,hB1c⟩,C1⟩:=hold_goes (Mem:=Mem) hKat hD hG gs sl T q B ha C
 have hjo:upd Inb h o j=some s:=by rw [upd_ne _ _ hjh];exact hj
 have hsub:∃ B2,B1≤B2∧B₀≤B2∧B2≤max B w1.heap.size∧∃ Inb1:Nat→Option Seat,(∀ x,x≠h→upd Inb h o x=Inb1 x)∧(upd Inb h o h=Inb1 h∨upd Inb h o h=none)∧(∀ x,x≠h→Inb1 x=Inb x)∧(Inb1=Inb∨upd Inb h o=Inb1)∧Ring P K Still B2 Mem Inb1 h T1 gs1 w1 q1:=by
  cases o with
  |none =>
   refine ⟨max B1 B₀,Nat.le_max_left _ _,Nat.le_max_right _ _,by omega,Inb,fun x hx=>upd_ne _ _ hx,.inr (upd_same _ _ _),fun _ _=>rfl,.inl rfl,Ring.raise C1 (Nat.le_max_left _ _)⟩
  |some s' =>
   obtain ⟨k1,k2,k3⟩:=hseat s' rfl
   obtain ⟨Bc,hBcs,hBc⟩:∃ Bc,Bc=w1.heap.size∧∀ c',s'.has c'→c'<Bc:=by
    refine ⟨w1.heap.size,rfl,fun c' hc'=>?_⟩
    obtain ⟨cap,kk',e⟩:=k3 w1 hF c' hc'
    exact (Array.getElem?_eq_some_iff.1 e).1
   have C2:=Ring.reseat (Ring.raise C1 (show B1≤max (max B1 B₀) Bc by omega)) hMh s' k1 k2 (k3 w1 hF) (fun c' hc'=>by have:=hBc c' hc';omega)
   exact ⟨max (max B1 B₀) Bc,by omega,by omega,by omega,upd Inb h (some s'),fun _ _=>rfl,.inl rfl,fun x hx=>upd_ne _ _ hx,.inr rfl,C2⟩
 obtain ⟨B2,hB2,hB02,hB2b,Inb1,hI1,hI2,hI3,hI5,C2⟩:=hsub
 have hj1:Inb1 j=some s:=by rw [←hI1 j hjh];exact hjo
 have hKc1:∀ w i s c cap buf cl a b tm,Inb1 i=some s→s.has c→K w→K (w.setChan c cap buf cl a b tm):=by
  intro w i s c cap buf cl a b tm e hc hw
  by_cases ei:i=h
  ·subst ei
   rcases hI2 with e2|e2
   ·exact hKc w i s c cap buf cl a b tm (by rw [e2];exact e) hc hw
   ·rw [upd_same] at e2
    rcases hI5 with e5|e5
    ·exact hKc0 w i s c cap buf cl a b tm (by rw [←e5];exact e) hc hw
    ·exact hKc w i s c cap buf cl a b tm (by rw [e5];exact e) hc hw
  ·exact hKc0 w i s c cap buf cl a b tm (by rw [←hI3 i ei];exact e) hc hw
 obtain ⟨N2,m2,T2,r2,gs2,g₂,d,k,cap,sl2,q2,rfl,z2,h2,hh,hch,C3⟩:=give (sl:=sl1) (Inb:=Inb1) (Inb':=upd Inb h o) hKat hKc1 hjh (by omega) hj1 hk hMh h1 hrun hsend (hes B2 hB02) C2 hI1 hI2 (nh:=nh) (fun T' hT'=>by rw [upd_same];exact hafter B2 hB02 T' hT')
 exact ⟨N1+N2,gs2,w1,g₂,d,k,cap,sl2,T2,q2,B2,runNT_then r1 r2,hF,z2.trans z1,h2,hh,hch,⟨Nat.le_trans hB1 hB2,hB2b,hB1c⟩,C3⟩
end
section
variable {P:Program} {K:World→Prop} {Still:Loc→Prop} {Mem:Nat→Prop} {Inb:Nat→Option Seat} {h:Nat}
def AtHire (P:Program) (K:World→Prop) (Still:Loc→Prop) (h:Nat) (o:Option Seat) (F:Goroutine→World→Prop) (a:Goroutine) (w:World):Prop :=
 a.status=.running∧∃ (a' child:Goroutine) (es:Array Event) (nh B₀:Nat),B₀≤w.heap.size∧F child w∧(∀ d,stepG P (h==0) a (w.at d)=.spawn a' child (w.at d) es)∧(∀ B,B₀≤B→∀ e∈es,EvHd Still B e) ∧
  ∀ B,B₀≤B→∀ T,Deaf T h=0→Idle P K Still B T h nh a' o
theorem hire_on (hKat:∀ w d,K w→K (w.at d)) {o:Option Seat} {F:Goroutine→World→Prop} {D:World→World→Array Event→Prop}
 (hseat:∀ s,o=some s→s.Wf∧(∀ i s' c,i≠h→Inb i=some s'→s'.has c→¬ s.has c)∧∀ g w,F g w→∀ c,s.has c→∃ cap k,w.heap[c]? = some (.chan cap #[] false k k false))
 (hD:∀ w w' es,D w w' es→K w→(∀ i s c,Inb i=some s→s.has c→∃ o,w.heap[c]? = some o)→w.heap.size≤w'.heap.size∧∀ B,w'.heap.size≤B→DH K Still B Inb w w' es)
 {a:Goroutine} {w:World} (hMh:Mem h) (hG:GoesI P (h==0) D (AtHire P K Still h o F) a w) (gs:Array Goroutine) (sl:Option (Nat×Nat)) (T:Trace) (q:Nat→Nat) (B:Nat) (hnew:Inb gs.size=none) (ha:gs[h]? = some a) (C:Ring P K Still B Mem Inb h T gs w q) :
 ∃ (N:Nat) (gs':Array Goroutine) (w':World) (child:Goroutine) (d:Nat) (sl':Option (Nat×Nat)) (T':Trace) (q':Nat→Nat) (B':Nat),
   runNT P N (crowd gs w sl) T=(.next (crowd gs' (w'.at d) sl'),T')∧F child w'∧gs'.size=gs.size+1∧gs'[gs.size]? = some child∧(B≤B'∧B'≤max B w'.heap.size∧w.heap.size≤w'.heap.size) ∧
   Ring P K Still B' (fun g=>(Mem g∧upd Inb h o g≠none)∨g=gs.size) (upd Inb h o) gs.size T' gs' (w'.at d) q':=by
 obtain ⟨N1,gs1,a1,w1,sl1,T1,q1,B1,r1,z1,h1,⟨hrun,a',child,es,nh,B₀,hB₀,hF,hgo,hes,hafter⟩,⟨hB1,hB1b,hB1c⟩,C1⟩:=hold_goes (Mem:=Mem) hKat hD hG gs sl T q B ha C
 have hhs:h≠gs.size:=fun e=>by have:=(Array.getElem?_eq_some_iff.1 ha).1;omega
 have hsub:∃ B2,B1≤B2∧B₀≤B2∧B2≤max B w1.heap.size∧∃ Inb1:Nat→Option Seat,(∀ x,x≠h→upd Inb h o x=Inb1 x)∧(upd Inb h o h=Inb1 h∨upd Inb h o h=none)∧(∀ x,x≠h→Inb1 x=Inb x)∧Ring P K Still B2 Mem Inb1 h T1 gs1 w1 q1:=by
  cases o with
  |none=>exact ⟨max B1 B₀,Nat.le_max_left _ _,Nat.le_max_right _ _,by omega,Inb,fun x hx=>upd_ne _ _ hx,.inr (upd_same _ _ _),fun _ _=>rfl,Ring.raise C1 (Nat.le_max_left _ _)⟩
  |some s' =>
   obtain ⟨k1,k2,k3⟩:=hseat s' rfl
   have hBc:∀ c',s'.has c'→c'<w1.heap.size:=fun c' hc'=>by
    obtain ⟨cap,kk',e⟩:=k3 child w1 hF c' hc'
    exact (Array.getElem?_eq_some_iff.1 e).1
   have C2:=Ring.reseat (Ring.raise C1 (show B1≤max (max B1 B₀) w1.heap.size by omega)) hMh s' k1 k2 (k3 child w1 hF) (fun c' hc'=>by have:=hBc c' hc';omega)
   exact ⟨max (max B1 B₀) w1.heap.size,by omega,by omega,by omega,upd Inb h (some s'),fun _ _=>rfl,.inl rfl,fun x hx=>upd_ne _ _ hx,C2⟩
 obtain ⟨B2,hB2,hB02,hB2b,Inb1,hI1,hI2,hI3,C2⟩:=hsub
 obtain ⟨N2,gs2,d,sl2,T2,q2,r2,z2,h2,C3⟩:=hire_give (sl:=sl1) (Inb:=Inb1) (Inb':=upd Inb h o) hKat hMh h1 hrun hgo (hes B2 hB02) C2 (by rw [z1,hI3 _ (Ne.symm hhs)];exact hnew) hI1 hI2 (nh:=nh) (fun T' hT'=>by rw [upd_same];exact hafter B2 hB02 T' hT')
 rw [z1] at z2 h2 C3
 exact ⟨N1+N2,gs2,w1,child,d,sl2,T2,q2,B2,runNT_then r1 r2,hF,z2,h2,⟨Nat.le_trans hB1 hB2,hB2b,hB1c⟩,C3⟩
end
end Go.Lift
