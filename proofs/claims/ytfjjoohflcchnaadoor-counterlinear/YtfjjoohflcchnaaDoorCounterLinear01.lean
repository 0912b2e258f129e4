/- CounterLinear, whatever the schedule, the shards and the scripts: what a Play of counters tells is what calls one behind the other tell, by the document's chapter 3. No conditions. CounterLinear, part 1 of 24: Sz__. -/
import GoSem.ClaimData
set_option linter.unusedSimpArgs false
set_option linter.unusedVariables false
set_option maxHeartbeats 4000000
set_option maxRecDepth 100000
noncomputable section
namespace Go
variable {i:Nat}
theorem Qa {α:Type _}{a b:α}:(some a).getD b=a:=rfl
theorem Qb {α:Type _}{b:α}{xs:Array α}(h:xs[i]? = some b):∃ h,xs[i]=b:=Array.getElem?_eq_some_iff.1 h
theorem Qc {α:Type _}{a:α}{l:List α}(h:l[i]? = some a):∃ h,l[i]=a:=List.getElem?_eq_some_iff.1 h
theorem Qd {α:Type _}{a b:α}(h:some a=some b):a=b:=Option.some.inj h
theorem Qe {α:Type _}{xs:Array α}{d:α}:xs.getD i d=xs[i]?.getD d:=Array.getD_eq_getD_getElem?
theorem Qf {α:Type _}{l:List α}(h:i<l.length):l[i]? = some l[i]:=List.getElem?_eq_getElem h
theorem Qg {α:Type _}{xs:Array α}{x:α}:(xs.push x)[i]? = if i=xs.size then some x else xs[i]?:=Array.getElem?_push
theorem Qh:(false=true)=False:=Bool.false_eq_true
theorem Qi (n:Nat):n<=n:=Nat.le_refl n
theorem Qj {α:Type _}{a b:List α}:(a++b).length=a.length+b.length:=List.length_append
theorem Qk {n m k:Nat}(a:n<=m) (b:m<=k):n<=k:=Nat.le_trans a b
theorem Ql {α:Type _}{l:List α}{a:α}:l.getD i a=l[i]?.getD a:=List.getD_eq_getElem?_getD
theorem Qm {α:Type _}{xs:Array α}(h:i<xs.size):xs[i]? = some xs[i]:=Array.getElem?_eq_getElem h
theorem Qn {α:Type _}{a b:List α}(h:i<a.length):(a++b)[i]? = a[i]?:=List.getElem?_append_left h
theorem Qo {α:Type _}{xs:Array α}{x:α}:(xs.push x)[xs.size]? = some x:=Array.getElem?_push_size
theorem Qp {n m k:Nat}(a:n<m) (b:m<=k):n<k:=Nat.lt_of_lt_of_le a b
theorem Qq {α:Type _}{l:List α}{j:Nat}{a:α}:(l.set i a)[j]? = if i=j then if i<l.length then some a else none else l[j]?:=List.getElem?_set
end Go
namespace Go.Proofs.YtfjjoohflcchnaaDoor
theorem Sz {α:Type _}:(∀ l:List α,l.toArray.size=l.length)∧(∀ (a:α) (l:List α),(a::l).length=l.length+1)∧([]:List α).length=0:=⟨λ_=>rfl,λ_ _=>rfl,rfl⟩
theorem Sr:(∀ n,List.range n=List.range.loop n [])∧(∀ l,List.range.loop 0 l=l)∧(∀ n l,List.range.loop (n+1) l=List.range.loop n (n::l))∧(∀ n:Nat,0+n=n):=⟨λ_=>rfl,λ_=>rfl,λ_ _=>rfl,Nat.zero_add⟩
theorem Sy {α:Type _}:(∀ n (a:α),Array.replicate (n+1) a=(Array.replicate n a).push a)∧(∀ a:α,Array.replicate 0 a=#[])∧(∀ (l:List α) a,l.toArray.push a=(l++[a]).toArray)∧(∀ l m:List α,l.toArray++m.toArray=(l++m).toArray)∧(∀ l:List α,[]++l=l)∧(∀ (a:α) l m,(a::l)++m=a::(l++m)):=⟨λ_ _=>Array.replicate_succ,λ_=>Array.replicate_zero,λ_ _=>List.push_toArray _ _,λ_ _=>List.append_toArray _ _,List.nil_append,λ_ _ _=>rfl⟩
theorem Sm {α:Type _}:(∀ {a b:α} {l:List α},(a∈b::l)=(a=b∨a∈l))∧(∀ {a:α},(a∈([]:List α))=False):=⟨propext List.mem_cons,eq_false List.not_mem_nil⟩
end Go.Proofs.YtfjjoohflcchnaaDoor
