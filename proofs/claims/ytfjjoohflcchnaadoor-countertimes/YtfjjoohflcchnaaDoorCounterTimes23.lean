/- Of the proof of CounterTimes. Part 23 of 31. (Joined, by program, and written short, of: La14a.) -/
import Derived.Test.YtfjjoohflcchnaaDoorCounterTimes19
set_option linter.unusedSimpArgs false
set_option linter.unusedVariables false
set_option maxHeartbeats 4000000
set_option maxRecDepth 100000
namespace Go.Proofs.YtfjjoohflcchnaaDoor.Gen
open Go Go.Lift Go.Conc Go.RowKit
theorem within_yes (l:List Int) (n:Int) (b o cap:Nat) (w:World) (hl:l.length≤1048576) (hc:∀ (k:Nat) (x:Int),l[k]? = some x→w.cell? ⟨b,o+k,none⟩=some (I x)) (hn:n∈l) :
 Calls Tryd.prog 53 #[.slice (some ⟨b,o,none⟩) l.length cap,I n] w fun e w'=>e=.returned (.bool true)∧w'=w:=by
 have HC:Hid (∀ (k:Nat) (x:Int),l[k]? = some x→w.cell? ⟨b,o+k,none⟩=some (I x)):=⟨hc⟩
 have HN:Hid (n∈l):=⟨hn⟩
 clear hc hn
 generalize hm:l.length=m at hl
 have HM:Hid (l.length=m):=⟨hm⟩
 clear hm
 go_enter Tryd.func53,Tryd.ntmps53
 go_wp2_with fail
 go_loopw [5] (fun i u=>∃ k:Nat,k≤m∧i=.int .i64 k∧n ∉ l.take k∧u=w) (fun i _=>m - (intOf i).toNat)
 case atStart=>exact ⟨0,Nat.zero_le _,rfl,by simp,rfl⟩
 case round =>
  obtain ⟨k,hk,rfl,hno,rfl⟩:=hrel
  have HO:Hid (n ∉ l.take k):=⟨hno⟩
  clear hno
  by_cases hlt:k<m
  ·obtain ⟨x,hx⟩:∃ x,l[k]? = some x:=⟨_,List.getElem?_eq_getElem (by have:=HM.out;omega)⟩
   have c1:=HC.out k x hx
   have hks:(k:Int)<(m:Int):=by omega
   by_cases hxn:x=n
   ·subst hxn
    go_wp2_with fail
    go_ret
    exact ⟨rfl,rfl⟩
   ·have hxn':(x==n)=false:=by simp [hxn]
    go_wp2_with fail
    go_roundw
    case rel =>
     refine ⟨k+1,by omega,by go_num,?_,trivial⟩
     rw [List.take_add_one,hx]
     intro h
     rcases List.mem_append.1 h with h|h
     ·exact HO.out h
     ·simp at h
      exact hxn h.symm
    case measure=>simp [intOf];omega
  ·exfalso
   have e:l.take k=l:=List.take_of_length_le (by have:=HM.out;omega)
   have:=HO.out
   rw [e] at this
   exact this HN.out
end Go.Proofs.YtfjjoohflcchnaaDoor.Gen
