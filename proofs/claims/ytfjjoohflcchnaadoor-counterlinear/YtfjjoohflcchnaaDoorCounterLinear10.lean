/- CounterLinear, part 10 of 24: GLone, GNew, GPlay, GLit, GObj, GEnd, GLoneX. -/
import Derived.Test.YtfjjoohflcchnaaDoorCounterLinear01
import Derived.Test.YtfjjoohflcchnaaDoorCounterLinear09
import Derived.Deep.RegionLaw
set_option linter.unusedSimpArgs false
set_option linter.unusedVariables false
set_option maxHeartbeats 4000000
set_option maxRecDepth 100000
noncomputable section
namespace Go.Proofs.YtfjjoohflcchnaaDoor
open Go Go.Lift Go.Conc Go.RowKit
def plainV:List FuncId:=[62,104,108,111,107,128,118,157,74,109,110,105,68,99,71,72,87,89,90,132,39,54,78,17,23,70,26,59,103,92,32,19,58,30,20,21,22,27,31,34,35,36,37,38,44,45,46,47,48,53,56,24,49,50,82,83,84,85,113,114,115,116,117,133,134,135,158,159,91,96]
def LV (f:FuncId):Prop:=f∈plainV
theorem callV:∀ f∈plainV,Callable Tryd.prog LV f:=by
 intro f hf;have hf':=hf;simp only[plainV,List.mem_cons,List.not_mem_nil,or_false] at hf;rcases hf with rfl|rfl|rfl|rfl|rfl|rfl|rfl|rfl|rfl|rfl|rfl|rfl|rfl|rfl|rfl|rfl|rfl|rfl|rfl|rfl|rfl|rfl|rfl|rfl|rfl|rfl|rfl|rfl|rfl|rfl|rfl|rfl|rfl|rfl|rfl|rfl|rfl|rfl|rfl|rfl|rfl|rfl|rfl|rfl|rfl|rfl|rfl|rfl|rfl|rfl|rfl|rfl|rfl|rfl|rfl|rfl|rfl|rfl|rfl|rfl|rfl|rfl|rfl|rfl|rfl|rfl|rfl|rfl|rfl|rfl;exact ⟨hf',Tryd.f62,Tryd.func62,by kernel_rfl,by kernel_rfl⟩;exact ⟨hf',Tryd.f104,Tryd.func104,by kernel_rfl,by kernel_rfl⟩;exact ⟨hf',Tryd.f108,Tryd.func108,by kernel_rfl,by kernel_rfl⟩;exact ⟨hf',Tryd.f111,Tryd.func111,by kernel_rfl,by kernel_rfl⟩;exact ⟨hf',Tryd.f107,Tryd.func107,by kernel_rfl,by kernel_rfl⟩;exact ⟨hf',Tryd.f128,Tryd.func128,by kernel_rfl,by kernel_rfl⟩;exact ⟨hf',Tryd.f118,Tryd.func118,by kernel_rfl,by kernel_rfl⟩;exact ⟨hf',Tryd.f157,Tryd.func157,by kernel_rfl,by kernel_rfl⟩;exact ⟨hf',Tryd.f74,Tryd.func74,by kernel_rfl,by kernel_rfl⟩;exact ⟨hf',Tryd.f109,Tryd.func109,by kernel_rfl,by kernel_rfl⟩;exact ⟨hf',Tryd.f110,Tryd.func110,by kernel_rfl,by kernel_rfl⟩;exact ⟨hf',Tryd.f105,Tryd.func105,by kernel_rfl,by kernel_rfl⟩;exact ⟨hf',Tryd.f68,Tryd.func68,by kernel_rfl,by kernel_rfl⟩;exact ⟨hf',Tryd.f99,Tryd.func99,by kernel_rfl,by kernel_rfl⟩;exact ⟨hf',Tryd.f71,Tryd.func71,by kernel_rfl,by kernel_rfl⟩;exact ⟨hf',Tryd.f72,Tryd.func72,by kernel_rfl,by kernel_rfl⟩;exact ⟨hf',Tryd.f87,Tryd.func87,by kernel_rfl,by kernel_rfl⟩
 exact ⟨hf',Tryd.f89,Tryd.func89,by kernel_rfl,by kernel_rfl⟩;exact ⟨hf',Tryd.f90,Tryd.func90,by kernel_rfl,by kernel_rfl⟩;exact ⟨hf',Tryd.f132,Tryd.func132,by kernel_rfl,by kernel_rfl⟩;exact ⟨hf',Tryd.f39,Tryd.func39,by kernel_rfl,by kernel_rfl⟩;exact ⟨hf',Tryd.f54,Tryd.func54,by kernel_rfl,by kernel_rfl⟩;exact ⟨hf',Tryd.f78,Tryd.func78,by kernel_rfl,by kernel_rfl⟩;exact ⟨hf',Tryd.f17,Tryd.func17,by kernel_rfl,by kernel_rfl⟩;exact ⟨hf',Tryd.f23,Tryd.func23,by kernel_rfl,by kernel_rfl⟩;exact ⟨hf',Tryd.f70,Tryd.func70,by kernel_rfl,by kernel_rfl⟩;exact ⟨hf',Tryd.f26,Tryd.func26,by kernel_rfl,by kernel_rfl⟩;exact ⟨hf',Tryd.f59,Tryd.func59,by kernel_rfl,by kernel_rfl⟩;exact ⟨hf',Tryd.f103,Tryd.func103,by kernel_rfl,by kernel_rfl⟩;exact ⟨hf',Tryd.f92,Tryd.func92,by kernel_rfl,by kernel_rfl⟩;exact ⟨hf',Tryd.f32,Tryd.func32,by kernel_rfl,by kernel_rfl⟩;exact ⟨hf',Tryd.f19,Tryd.func19,by kernel_rfl,by kernel_rfl⟩;exact ⟨hf',Tryd.f58,Tryd.func58,by kernel_rfl,by kernel_rfl⟩;exact ⟨hf',Tryd.f30,Tryd.func30,by kernel_rfl,by kernel_rfl⟩;exact ⟨hf',Tryd.f20,Tryd.func20,by kernel_rfl,by kernel_rfl⟩;exact ⟨hf',Tryd.f21,Tryd.func21,by kernel_rfl,by kernel_rfl⟩;exact ⟨hf',Tryd.f22,Tryd.func22,by kernel_rfl,by kernel_rfl⟩;exact ⟨hf',Tryd.f27,Tryd.func27,by kernel_rfl,by kernel_rfl⟩;exact ⟨hf',Tryd.f31,Tryd.func31,by kernel_rfl,by kernel_rfl⟩;exact ⟨hf',Tryd.f34,Tryd.func34,by kernel_rfl,by kernel_rfl⟩;exact ⟨hf',Tryd.f35,Tryd.func35,by kernel_rfl,by kernel_rfl⟩
 exact ⟨hf',Tryd.f36,Tryd.func36,by kernel_rfl,by kernel_rfl⟩;exact ⟨hf',Tryd.f37,Tryd.func37,by kernel_rfl,by kernel_rfl⟩;exact ⟨hf',Tryd.f38,Tryd.func38,by kernel_rfl,by kernel_rfl⟩;exact ⟨hf',Tryd.f44,Tryd.func44,by kernel_rfl,by kernel_rfl⟩;exact ⟨hf',Tryd.f45,Tryd.func45,by kernel_rfl,by kernel_rfl⟩;exact ⟨hf',Tryd.f46,Tryd.func46,by kernel_rfl,by kernel_rfl⟩;exact ⟨hf',Tryd.f47,Tryd.func47,by kernel_rfl,by kernel_rfl⟩;exact ⟨hf',Tryd.f48,Tryd.func48,by kernel_rfl,by kernel_rfl⟩;exact ⟨hf',Tryd.f53,Tryd.func53,by kernel_rfl,by kernel_rfl⟩;exact ⟨hf',Tryd.f56,Tryd.func56,by kernel_rfl,by kernel_rfl⟩;exact ⟨hf',Tryd.f24,Tryd.func24,by kernel_rfl,by kernel_rfl⟩;exact ⟨hf',Tryd.f49,Tryd.func49,by kernel_rfl,by kernel_rfl⟩;exact ⟨hf',Tryd.f50,Tryd.func50,by kernel_rfl,by kernel_rfl⟩;exact ⟨hf',Tryd.f82,Tryd.func82,by kernel_rfl,by kernel_rfl⟩;exact ⟨hf',Tryd.f83,Tryd.func83,by kernel_rfl,by kernel_rfl⟩;exact ⟨hf',Tryd.f84,Tryd.func84,by kernel_rfl,by kernel_rfl⟩;exact ⟨hf',Tryd.f85,Tryd.func85,by kernel_rfl,by kernel_rfl⟩;exact ⟨hf',Tryd.f113,Tryd.func113,by kernel_rfl,by kernel_rfl⟩;exact ⟨hf',Tryd.f114,Tryd.func114,by kernel_rfl,by kernel_rfl⟩;exact ⟨hf',Tryd.f115,Tryd.func115,by kernel_rfl,by kernel_rfl⟩;exact ⟨hf',Tryd.f116,Tryd.func116,by kernel_rfl,by kernel_rfl⟩;exact ⟨hf',Tryd.f117,Tryd.func117,by kernel_rfl,by kernel_rfl⟩;exact ⟨hf',Tryd.f133,Tryd.func133,by kernel_rfl,by kernel_rfl⟩;exact ⟨hf',Tryd.f134,Tryd.func134,by kernel_rfl,by kernel_rfl⟩
 exact ⟨hf',Tryd.f135,Tryd.func135,by kernel_rfl,by kernel_rfl⟩;exact ⟨hf',Tryd.f158,Tryd.func158,by kernel_rfl,by kernel_rfl⟩;exact ⟨hf',Tryd.f159,Tryd.func159,by kernel_rfl,by kernel_rfl⟩;exact ⟨hf',Tryd.f91,Tryd.func91,by kernel_rfl,by kernel_rfl⟩;exact ⟨hf',Tryd.f96,Tryd.func96,by kernel_rfl,by kernel_rfl⟩
theorem fineV:∀ f,LV f->fineFn Tryd.prog true LV f:=by
 intro f hf;simp only[LV,plainV,List.mem_cons,List.not_mem_nil,or_false] at hf;rcases hf with rfl|rfl|rfl|rfl|rfl|rfl|rfl|rfl|rfl|rfl|rfl|rfl|rfl|rfl|rfl|rfl|rfl|rfl|rfl|rfl|rfl|rfl|rfl|rfl|rfl|rfl|rfl|rfl|rfl|rfl|rfl|rfl|rfl|rfl|rfl|rfl|rfl|rfl|rfl|rfl|rfl|rfl|rfl|rfl|rfl|rfl|rfl|rfl|rfl|rfl|rfl|rfl|rfl|rfl|rfl|rfl|rfl|rfl|rfl|rfl|rfl|rfl|rfl|rfl|rfl|rfl|rfl|rfl|rfl|rfl;exact fineFn_askS callV extT Tryd.func62 (c:=Tryd.f62.body.getD .skip) (by rfl) (by kernel_rfl);exact fineFn_askS callV extT Tryd.func104 (c:=Tryd.f104.body.getD .skip) (by rfl) (by kernel_rfl);exact fineFn_askS callV extT Tryd.func108 (c:=Tryd.f108.body.getD .skip) (by rfl) (by kernel_rfl);exact fineFn_askS callV extT Tryd.func111 (c:=Tryd.f111.body.getD .skip) (by rfl) (by kernel_rfl);exact fineFn_askS callV extT Tryd.func107 (c:=Tryd.f107.body.getD .skip) (by rfl) (by kernel_rfl);exact fineFn_askS callV extT Tryd.func128 (c:=Tryd.f128.body.getD .skip) (by rfl) (by kernel_rfl);exact fineFn_askS callV extT Tryd.func118 (c:=Tryd.f118.body.getD .skip) (by rfl) (by kernel_rfl);exact fineFn_askS callV extT Tryd.func157 (c:=Tryd.f157.body.getD .skip) (by rfl) (by kernel_rfl);exact fineFn_askS callV extT Tryd.func74 (c:=Tryd.f74.body.getD .skip) (by rfl) (by kernel_rfl);exact fineFn_askS callV extT Tryd.func109 (c:=Tryd.f109.body.getD .skip) (by rfl) (by kernel_rfl);exact fineFn_askS callV extT Tryd.func110 (c:=Tryd.f110.body.getD .skip) (by rfl) (by kernel_rfl)
 exact fineFn_askS callV extT Tryd.func105 (c:=Tryd.f105.body.getD .skip) (by rfl) (by kernel_rfl);exact fineFn_askS callV extT Tryd.func68 (c:=Tryd.f68.body.getD .skip) (by rfl) (by kernel_rfl);exact fineFn_askS callV extT Tryd.func99 (c:=Tryd.f99.body.getD .skip) (by rfl) (by kernel_rfl);exact fineFn_askS callV extT Tryd.func71 (c:=Tryd.f71.body.getD .skip) (by rfl) (by kernel_rfl);exact fineFn_askS callV extT Tryd.func72 (c:=Tryd.f72.body.getD .skip) (by rfl) (by kernel_rfl);exact fineFn_askS callV extT Tryd.func87 (c:=Tryd.f87.body.getD .skip) (by rfl) (by kernel_rfl);exact fineFn_askS callV extT Tryd.func89 (c:=Tryd.f89.body.getD .skip) (by rfl) (by kernel_rfl);exact fineFn_askS callV extT Tryd.func90 (c:=Tryd.f90.body.getD .skip) (by rfl) (by kernel_rfl);exact fineFn_askS callV extT Tryd.func132 (c:=Tryd.f132.body.getD .skip) (by rfl) (by kernel_rfl);exact fineFn_askS callV extT Tryd.func39 (c:=Tryd.f39.body.getD .skip) (by rfl) (by kernel_rfl);exact fineFn_askS callV extT Tryd.func54 (c:=Tryd.f54.body.getD .skip) (by rfl) (by kernel_rfl);exact fineFn_askS callV extT Tryd.func78 (c:=Tryd.f78.body.getD .skip) (by rfl) (by kernel_rfl);exact fineFn_askS callV extT Tryd.func17 (c:=Tryd.f17.body.getD .skip) (by rfl) (by kernel_rfl);exact fineFn_askS callV extT Tryd.func23 (c:=Tryd.f23.body.getD .skip) (by rfl) (by kernel_rfl);exact fineFn_askS callV extT Tryd.func70 (c:=Tryd.f70.body.getD .skip) (by rfl) (by kernel_rfl)
 exact fineFn_askS callV extT Tryd.func26 (c:=Tryd.f26.body.getD .skip) (by rfl) (by kernel_rfl);exact fineFn_askS callV extT Tryd.func59 (c:=Tryd.f59.body.getD .skip) (by rfl) (by kernel_rfl);exact fineFn_askS callV extT Tryd.func103 (c:=Tryd.f103.body.getD .skip) (by rfl) (by kernel_rfl);exact fineFn_askS callV extT Tryd.func92 (c:=Tryd.f92.body.getD .skip) (by rfl) (by kernel_rfl);exact fineFn_askS callV extT Tryd.func32 (c:=Tryd.f32.body.getD .skip) (by rfl) (by kernel_rfl);exact fineFn_askS callV extT Tryd.func19 (c:=Tryd.f19.body.getD .skip) (by rfl) (by kernel_rfl);exact fineFn_askS callV extT Tryd.func58 (c:=Tryd.f58.body.getD .skip) (by rfl) (by kernel_rfl);exact fineFn_askS callV extT Tryd.func30 (c:=Tryd.f30.body.getD .skip) (by rfl) (by kernel_rfl);exact fineFn_askS callV extT Tryd.func20 (c:=Tryd.f20.body.getD .skip) (by rfl) (by kernel_rfl);exact fineFn_askS callV extT Tryd.func21 (c:=Tryd.f21.body.getD .skip) (by rfl) (by kernel_rfl);exact fineFn_askS callV extT Tryd.func22 (c:=Tryd.f22.body.getD .skip) (by rfl) (by kernel_rfl);exact fineFn_askS callV extT Tryd.func27 (c:=Tryd.f27.body.getD .skip) (by rfl) (by kernel_rfl);exact fineFn_askS callV extT Tryd.func31 (c:=Tryd.f31.body.getD .skip) (by rfl) (by kernel_rfl);exact fineFn_askS callV extT Tryd.func34 (c:=Tryd.f34.body.getD .skip) (by rfl) (by kernel_rfl);exact fineFn_askS callV extT Tryd.func35 (c:=Tryd.f35.body.getD .skip) (by rfl) (by kernel_rfl)
 exact fineFn_askS callV extT Tryd.func36 (c:=Tryd.f36.body.getD .skip) (by rfl) (by kernel_rfl);exact fineFn_askS callV extT Tryd.func37 (c:=Tryd.f37.body.getD .skip) (by rfl) (by kernel_rfl);exact fineFn_askS callV extT Tryd.func38 (c:=Tryd.f38.body.getD .skip) (by rfl) (by kernel_rfl);exact fineFn_askS callV extT Tryd.func44 (c:=Tryd.f44.body.getD .skip) (by rfl) (by kernel_rfl);exact fineFn_askS callV extT Tryd.func45 (c:=Tryd.f45.body.getD .skip) (by rfl) (by kernel_rfl);exact fineFn_askS callV extT Tryd.func46 (c:=Tryd.f46.body.getD .skip) (by rfl) (by kernel_rfl);exact fineFn_askS callV extT Tryd.func47 (c:=Tryd.f47.body.getD .skip) (by rfl) (by kernel_rfl);exact fineFn_askS callV extT Tryd.func48 (c:=Tryd.f48.body.getD .skip) (by rfl) (by kernel_rfl);exact fineFn_askS callV extT Tryd.func53 (c:=Tryd.f53.body.getD .skip) (by rfl) (by kernel_rfl);exact fineFn_askS callV extT Tryd.func56 (c:=Tryd.f56.body.getD .skip) (by rfl) (by kernel_rfl);exact fineFn_askS callV extT Tryd.func24 (c:=Tryd.f24.body.getD .skip) (by rfl) (by kernel_rfl);exact fineFn_askS callV extT Tryd.func49 (c:=Tryd.f49.body.getD .skip) (by rfl) (by kernel_rfl);exact fineFn_askS callV extT Tryd.func50 (c:=Tryd.f50.body.getD .skip) (by rfl) (by kernel_rfl);exact fineFn_askS callV extT Tryd.func82 (c:=Tryd.f82.body.getD .skip) (by rfl) (by kernel_rfl);exact fineFn_askS callV extT Tryd.func83 (c:=Tryd.f83.body.getD .skip) (by rfl) (by kernel_rfl)
 exact fineFn_askS callV extT Tryd.func84 (c:=Tryd.f84.body.getD .skip) (by rfl) (by kernel_rfl);exact fineFn_askS callV extT Tryd.func85 (c:=Tryd.f85.body.getD .skip) (by rfl) (by kernel_rfl);exact fineFn_askS callV extT Tryd.func113 (c:=Tryd.f113.body.getD .skip) (by rfl) (by kernel_rfl);exact fineFn_askS callV extT Tryd.func114 (c:=Tryd.f114.body.getD .skip) (by rfl) (by kernel_rfl);exact fineFn_askS callV extT Tryd.func115 (c:=Tryd.f115.body.getD .skip) (by rfl) (by kernel_rfl);exact fineFn_askS callV extT Tryd.func116 (c:=Tryd.f116.body.getD .skip) (by rfl) (by kernel_rfl);exact fineFn_askS callV extT Tryd.func117 (c:=Tryd.f117.body.getD .skip) (by rfl) (by kernel_rfl);exact fineFn_askS callV extT Tryd.func133 (c:=Tryd.f133.body.getD .skip) (by rfl) (by kernel_rfl);exact fineFn_askS callV extT Tryd.func134 (c:=Tryd.f134.body.getD .skip) (by rfl) (by kernel_rfl);exact fineFn_askS callV extT Tryd.func135 (c:=Tryd.f135.body.getD .skip) (by rfl) (by kernel_rfl);exact fineFn_askS callV extT Tryd.func158 (c:=Tryd.f158.body.getD .skip) (by rfl) (by kernel_rfl);exact fineFn_askS callV extT Tryd.func159 (c:=Tryd.f159.body.getD .skip) (by rfl) (by kernel_rfl);exact fineFn_askS callV extT Tryd.func91 (c:=Tryd.f91.body.getD .skip) (by rfl) (by kernel_rfl);exact fineFn_askS callV extT Tryd.func96 (c:=Tryd.f96.body.getD .skip) (by rfl) (by kernel_rfl)
end Go.Proofs.YtfjjoohflcchnaaDoor
namespace Go.Proofs.YtfjjoohflcchnaaDoor.Gen
open Go Go.Lift Go.Conc Go.RowKit
variable {u v:World} {z:Nat->Option Nat} {S:TS} {n:Nat} {a:Act}
def newS (wb bk base:Nat) (sc:Value) (xs:List Int):TS :=
 { wb:=wb,bk:=bk,base:=base,us:=0,n:=0,la:=-1,sc:=sc,cv:=.slice none 0 0,ths:=.slice none 0 0,tv:=.slice none 0 0,sched:=xs,chg:=[],tr:=[],stk:=false,ran:=false,thr:=[] }
structure IsNew (v:World) (xs:List Int) (wb bk:Nat) (sc:Value) (v':World):Prop where
 mem:Mem zn (newS wb bk v.heap.size sc xs) [] v'
 opn:Open v' bk
 new:∀ b,Own (newS wb bk v.heap.size sc xs) [] b∨b=bk->v.heap.size<=b
 old:Grows v v'
abbrev rowNew (sc:Value) (bk:Nat):Array Value:=#[sc,I 0,I (-1),.slice none 0 0,.slice none 0 0,.slice none 0 0,.bool false,.bool false,.chan (some bk)]
theorem new_rep {v':World}{xs:List Int}{g cap bk m:Nat}(hg:Grows v u) (hown:u.ownsRow v.heap.size 3 1 (.slice (some ⟨g,0,none⟩) m cap) m (xs.map I)) (hl:xs.length=m) (hbk:u.heap[bk]? = some (.chan 0 #[] false 0 0 false)) (hb:v.heap.size<=bk)
 (hh:v'.heap=u.heap.push (.cells (rowNew (.slice (some ⟨g,0,none⟩) m cap) bk) 97)) (ho:v'.os=u.os) (hu:v'.output=u.output):IsNew v xs u.heap.size bk (.slice (some ⟨g,0,none⟩) m cap) v':=by
 have hold:∀ b,b<u.heap.size->v'.heap[b]? = u.heap[b]?:=λb hb=>by rw[hh,Qg,if_neg (by omega)]
 have hs':v'.heap.size=u.heap.size+1:=by rw[hh];simp
 have hgl:=own_lt hown g rfl;have hsz:=hg.size;have hblk:∀ k b,blk (newS u.heap.size bk v.heap.size (.slice (some ⟨g,0,none⟩) m cap) xs) k=some b->(k=0∧b=u.heap.size)∨(k=4∧b=g):=λk b hk=>by
  match k,hk with
  |0,hk=>cases hk;exact .inl ⟨rfl,rfl⟩
  |1,hk=>cases hk
  |2,hk=>cases hk
  |3,hk=>cases hk
  |4,hk=>cases hk;exact .inr ⟨rfl,rfl⟩
  |k+5,hk=>simp[blk,newS] at hk
 have hnil:v'.ownsRow v.heap.size 3 1 (.slice none 0 0) 0 []:=World.ownsRow_nil _ _ _ _;refine ⟨⟨⟨?_,λi t ht=>by simp[newS] at ht,World.ownsRow_nil _ _ _ _,World.ownsRow_nil _ _ _ _,World.ownsRow_nil _ _ _ _,?_,by show v.heap.size<=_;omega,λj k b hj hk=>?_,λb n h=>by cases h⟩,λj c hc=>by simp at hc,λj c hc=>by simp at hc,λi j c d hc=>by simp at hc,rfl⟩,⟨0,0,?_⟩,λb hb'=>?_,⟨by omega,λb hb'=>by rw[hold b (by omega),hg.old b hb'],ho.trans hg.os,hu.trans hg.output⟩⟩
 .show v'.heap[u.heap.size]? = _
  rw[hh];exact Qo
 .show v'.ownsRow v.heap.size 3 1 _ xs.length (xs.map I)
  rw[hl];exact own_stay (λb hb=>hold b (own_lt hown b hb).2) hown
 .rcases hblk j b hj with ⟨rfl,e1⟩|⟨rfl,e1⟩<;>rcases hblk k b hk with ⟨rfl,e2⟩|⟨rfl,e2⟩<;>first|rfl|omega
 rw[hold bk (Qb hbk).1];exact hbk
 .rcases hb' with (⟨k,hk⟩|⟨j,c,hc,_⟩)|rfl
  .rcases hblk k b hk with ⟨_,rfl⟩|⟨_,rfl⟩
   exact hsz;exact hgl.1
  simp at hc;exact hb
theorem body7 (vb vo cap:Nat) (xs:List Int) (hx0:0<xs.length) (hx1:xs.length<=17592186043904) (hv:∀ k x,xs[k]? = some x->v.cell? ⟨vb,vo+k,none⟩=some (I x)):
 Body Tryd.f17 #[.slice (some ⟨vb,vo,none⟩) xs.length cap] v (λr v'=>∃ wb bk sc,r=Pt wb 0∧IsNew v xs wb bk sc v'):=by
 intro code hb;obtain rfl:=Qd hb;clear hb;obtain ⟨x0,hx00⟩:∃ x,xs[0]? = some x:=⟨_,Qf hx0⟩
 have hvl:vb<v.heap.size:=World.block_lt_of_cell? _ _ (hv 0 x0 hx00);have hnews:∀ u:World,u.heap[vb]? = v.heap[vb]?->∀ j y,(xs.map I)[j]? = some y->u.cell? ((⟨vb,vo,none⟩:Addr).add j)=some y:=λu hu j y hj=>by
  have hadd:(⟨vb,vo,none⟩:Addr).add j=⟨vb,vo+j,none⟩:=by unfold Addr.add;split<;>simp_all
  rw[hadd,World.cell?_of_block (w:=v) (w':=u) hu];rw[List.getElem?_map] at hj;cases hk:xs[j]? with
  |none=>rw[hk] at hj;cases hj
  |some x =>rw[hk] at hj;cases hj;exact hv j x hk
 have h1:∀ u∈xs.map I,u.oneCell'=true:=λu hu=>by simp only[List.mem_map] at hu;obtain ⟨x,_,rfl⟩:=hu;rfl
 have HW:Hid (∀ u:World,u.heap[vb]? = v.heap[vb]?->∀ j y,(xs.map I)[j]? = some y->u.cell? ((⟨vb,vo,none⟩:Addr).add j)=some y):=⟨hnews⟩
 have H1:Hid (∀ u∈xs.map I,u.oneCell'=true):=⟨h1⟩
 have HX:Hid (0<xs.length∧xs.length<=17592186043904∧vb<v.heap.size):=⟨⟨hx0,hx1,hvl⟩⟩
 clear hv hnews h1 hx00 hx0 hx1 hvl;have hmk:=run_mk;obtain ⟨j0,hj,hj0,hj1,hj2⟩:=info_parts info3;simp only[Tryd.ntmps17,Sz,Nat.reduceAdd,Nat.reduceSub,Sy];go_wp2_with fail
 go_region_law
  (refine step_append_lies _ rfl (.const (.slice none 0 0)) (.tmp 3) 22 rfl v.heap.size 3 j0 _ 1 8 Tryd.underlying22 hj hj0 hj1 hj2 rfl (by decide) (.slice none 0 0) 0 [] rfl (World.ownsRow_nil _ _ _ _) ⟨vb,vo,none⟩ xs.length cap (xs.map I) rfl (by simp) (HW.out _ (by first|rfl|(show (v.heap.push _)[vb]? = _;rw[Qg,if_neg (by have:=HX.out;omega)]))) H1.out HX.out.1 (by have:=HX.out;unfold maxLen;omega) (by have:=HX.out;omega) (by simp) _ rfl ?_
   intro g cpg w6 hown6 hgrow6 hat6 hlt6)
 .have g6:Grows v (w6.alloc (.chan 0 #[] false 0 0 false)):=by have hs:v.heap.size<=w6.heap.size:=hgrow6.size;refine ⟨by show _<=(w6.heap.push _).size;simp;omega,λb hb=>?_,hgrow6.os,hgrow6.output⟩;show (w6.heap.push _)[b]? = _;rw[Qg,if_neg (by omega)];exact hgrow6.block b hb (λe=>by cases e)
  have hN:IsNew v xs (w6.heap.size+1) w6.heap.size (.slice (some ⟨g,0,none⟩) xs.length cpg) ((w6.alloc (.chan 0 #[] false 0 0 false)).alloc (.cells (rowNew (.slice (some ⟨g,0,none⟩) xs.length cpg) w6.heap.size) 97)):=by
   have:=new_rep (v:=v) (u:=w6.alloc (.chan 0 #[] false 0 0 false)) (v':=(w6.alloc (.chan 0 #[] false 0 0 false)).alloc (.cells (rowNew (.slice (some ⟨g,0,none⟩) xs.length cpg) w6.heap.size) 97)) (xs:=xs) (g:=g) (cap:=cpg) (bk:=w6.heap.size) (m:=xs.length) g6 (own_stay (λb hb=>?_) (by rw[Nat.zero_add,List.nil_append] at hown6;exact hown6)) rfl Qo hgrow6.size rfl rfl rfl
   .rw[show (w6.alloc (.chan 0 #[] false 0 0 false)).heap.size=w6.heap.size+1 by show (w6.heap.push _).size=_;simp] at this
    exact this
   .cases hb
    show (w6.heap.push _)[g]? = _;rw[Qg,if_neg (by omega)]
  have HN:Hid _:=⟨hN⟩
  clear hN g6 hgrow6 hown6 hat6 hlt6
  go_wp2
  go_ret;exact ⟨_,rfl,w6.heap.size+1,w6.heap.size,_,rfl,HN.out⟩
 .have hb0:∀ b,b<v.heap.size+1->w6.heap[b]? = (v.alloc (.chan 0 #[] false 0 0 false)).heap[b]?:=λb hb=>hgrow6.block b (by show b<(v.heap.push _).size;simp;omega) (λe=>by cases e)
  have hs:v.heap.size+1<=w6.heap.size:=by
   have:=hgrow6.size;have e:(v.alloc (.chan 0 #[] false 0 0 false)).drew.heap.size=v.heap.size+1:=by show (v.heap.push _).size=_;simp
   omega
  have g6:Grows v w6:=by refine ⟨by omega,λb hb=>?_,hgrow6.os,hgrow6.output⟩;rw[hb0 b (by omega)];show (v.heap.push _)[b]? = _;rw[Qg,if_neg (by omega)]
  have hN:IsNew v xs w6.heap.size v.heap.size (.slice (some ⟨g,0,none⟩) xs.length cpg) (w6.alloc (.cells (rowNew (.slice (some ⟨g,0,none⟩) xs.length cpg) v.heap.size) 97)) :=
   new_rep (v:=v) (u:=w6) (xs:=xs) (g:=g) (cap:=cpg) (bk:=v.heap.size) (m:=xs.length) g6 (by rw[Nat.zero_add,List.nil_append] at hown6;exact hown6) rfl (by rw[hb0 _ (by omega)];exact Qo) (Qi _) rfl rfl rfl
  have HN:Hid _:=⟨hN⟩
  clear hN g6 hgrow6 hown6 hat6 hlt6 hb0 hs
  go_wp2
  go_ret;exact ⟨_,rfl,w6.heap.size,v.heap.size,_,rfl,HN.out⟩
theorem body9 (h:Rep z S v) (h0:0<S.n) (hn:S.n*40<=140737488355328) (h1:∀ u∈S.tr,u.oneCell'=true):
 Body Tryd.f23 #[Pt S.wb 0] v (λr v'=>∃ g cap,r=.slice (some ⟨g,0,none⟩) S.n cap∧v'.ownsRow v.heap.size 60 5 (.slice (some ⟨g,0,none⟩) S.n cap) S.n S.tr∧Grows v v'∧v.heap.size<=g):=by
 intro code hb;obtain rfl:=Qd hb;clear hb;have c5:=h.wcell.2.2.2.2.2.1;obtain ⟨g0,cap0,e0,_,hg0⟩:=h.own.form h0;rw[e0] at c5;have hcs:=h.own.cells (g:=g0) (by rw[e0];rfl);have hln:S.tr.length=S.n*5:=h.own.1;have HH:Hid ((∀ j u,S.tr[j]? = some u->v.cell? ((⟨g0,0,none⟩:Addr).add j)=some u)∧(∀ u∈S.tr,u.oneCell'=true)∧0<S.n∧S.n*40<=140737488355328∧S.tr.length=S.n*5):=⟨⟨hcs,h1,h0,hn,hln⟩⟩
 clear hcs h1 h0 hn hln h e0;obtain ⟨j0,hj,hj0,hj1,hj2⟩:=info_parts info34;simp only[Tryd.ntmps23,Sz,Nat.reduceAdd,Nat.reduceSub,Sy]
 go_wp2_with (first
  |(refine wpList_append_lies _ rfl (.const (.slice none 0 0)) (.tmp 8) 41 rfl v.heap.size 60 j0 _ 5 40 Tryd.underlying41 hj hj0 hj1 hj2 rfl (by decide) (.slice none 0 0) 0 [] rfl (World.ownsRow_nil _ _ _ _) ⟨g0,0,none⟩ S.n cap0 S.tr rfl HH.out.2.2.2.2 HH.out.1 HH.out.2.1 HH.out.2.2.1 (by have:=HH.out.2.2.2.1;unfold maxLen;omega) (by have:=HH.out.2.2.2.1;omega) (Qi _) _ rfl ?_
    intro g cpg w6 hown6 hgrow6 hat6 hlt6))
 go_ret;refine ⟨_,rfl,g,cpg,rfl,?_,⟨hgrow6.size,λb hb=>hgrow6.block b hb (λe=>by cases e),hgrow6.os,hgrow6.output⟩,?_⟩
 .rw[Nat.zero_add,List.nil_append] at hown6
  exact hown6
 .rcases hat6 with h|h
  cases h;omega
def Refused (n:Nat) (ln:Nat->Nat) (E:Int):Prop:=((∃ k,k<n∧64<ln k)∧E=2)∨((∀ k,k<n->ln k<=64)∧(n=0∨8<n)∧E=1)
theorem new_rep0 {v':World}{bk:Nat}(hg:Grows v u) (hbk:u.heap[bk]? = some (.chan 0 #[] false 0 0 false)) (hb:v.heap.size<=bk)
 (hh:v'.heap=u.heap.push (.cells (rowNew (.slice none 0 0) bk) 97)) (ho:v'.os=u.os) (hu:v'.output=u.output):IsNew v [] u.heap.size bk (.slice none 0 0) v':=by
 have hold:∀ b,b<u.heap.size->v'.heap[b]? = u.heap[b]?:=λb hb=>by rw[hh,Qg,if_neg (by omega)]
 have hs':v'.heap.size=u.heap.size+1:=by rw[hh];simp
 have hsz:=hg.size;have hblk:∀ k b,blk (newS u.heap.size bk v.heap.size (.slice none 0 0) []) k=some b->k=0∧b=u.heap.size:=λk b hk=>by
  match k,hk with
  |0,hk=>cases hk;exact ⟨rfl,rfl⟩
  |1,hk=>cases hk
  |2,hk=>cases hk
  |3,hk=>cases hk
  |4,hk=>cases hk
  |k+5,hk=>simp[blk,newS] at hk
 refine ⟨⟨⟨?_,λi t ht=>by simp[newS] at ht,World.ownsRow_nil _ _ _ _,World.ownsRow_nil _ _ _ _,World.ownsRow_nil _ _ _ _,World.ownsRow_nil _ _ _ _,by show v.heap.size<=_;omega,λj k b hj hk=>?_,λb n h=>by cases h⟩,λj c hc=>by simp at hc,λj c hc=>by simp at hc,λi j c d hc=>by simp at hc,rfl⟩,⟨0,0,?_⟩,λb hb'=>?_,⟨by omega,λb hb'=>by rw[hold b (by omega),hg.old b hb'],ho.trans hg.os,hu.trans hg.output⟩⟩
 .show v'.heap[u.heap.size]? = _
  rw[hh];exact Qo
 rw[(hblk j b hj).1,(hblk k b hk).1];rw[hold bk (Qb hbk).1];exact hbk
 .rcases hb' with (⟨k,hk⟩|⟨j,c,hc,_⟩)|rfl
  rw[(hblk k b hk).2];exact hsz;simp at hc;exact hb
theorem body70 (p:Option Addr) (cap:Nat):Body Tryd.f17 #[.slice p 0 cap] v (λr v'=>∃ wb bk sc,r=Pt wb 0∧IsNew v [] wb bk sc v'):=by
 intro code hb;obtain rfl:=Qd hb;clear hb;have hmk:=run_mk;obtain ⟨j0,hj,hj0,hj1,hj2⟩:=info_parts info3;have HN:∀ v':World,v'.heap=(v.heap.push (.chan 0 #[] false 0 0 false)).push (.cells (rowNew (.slice none 0 0) v.heap.size) 97)->v'.os=v.os->v'.output=v.output->IsNew v [] (v.heap.size+1) v.heap.size (.slice none 0 0) v':=λv' h4 h5 h6=>by have:=new_rep0 (v:=v) (u:=v.alloc (.chan 0 #[] false 0 0 false)) (v':=v') (bk:=v.heap.size) ⟨by show _<=(v.heap.push _).size;simp,λb hb=>by show (v.heap.push _)[b]? = _;rw[Qg,if_neg (by omega)],rfl,rfl⟩ Qo (Qi _) h4 h5 h6;rw[show (v.alloc (.chan 0 #[] false 0 0 false)).heap.size=v.heap.size+1 by show (v.heap.push _).size=_;simp] at this;exact this
 have HN:Hid _:=⟨HN⟩
 cases p;all_goals
  simp only[Tryd.ntmps17,Sz,Nat.reduceAdd,Nat.reduceSub,Sy];go_wp2_with fail
  go_region_law fail
  all_goals
   go_wp2
   go_ret;exact ⟨_,rfl,v.heap.size+1,v.heap.size,_,rfl,HN.out _ rfl rfl rfl⟩
theorem body7A (p:Option Addr) (vb vo cap:Nat) (xs:List Int) (hp:0<xs.length->p=some ⟨vb,vo,none⟩) (hx1:xs.length<=17592186043904) (hv:∀ k x,xs[k]? = some x->v.cell? ⟨vb,vo+k,none⟩=some (I x)):
 Body Tryd.f17 #[.slice p xs.length cap] v (λr v'=>∃ wb bk sc,r=Pt wb 0∧IsNew v xs wb bk sc v'):=by
 rcases Nat.eq_zero_or_pos xs.length with h0|h0
 .obtain rfl:=List.length_eq_zero_iff.1 h0
  exact body70 p cap
 .rw[hp h0]
  exact body7 vb vo cap xs h0 hx1 hv
theorem body90 (h:Rep z S v) (h0:S.n=0):Body Tryd.f23 #[Pt S.wb 0] v (λr v'=>r=.slice none 0 0∧v'=v):=by
 intro code hb;obtain rfl:=Qd hb;clear hb;have c5:=h.wcell.2.2.2.2.2.1;obtain ⟨p0,cap0,e0⟩:∃ p cap,S.tv=.slice p 0 cap:=by obtain ⟨p,cap,e⟩:=own_form h.own;rw[h0] at e;exact ⟨p,cap,e⟩
 rw[e0] at c5;clear h e0;obtain ⟨j0,hj,hj0,hj1,hj2⟩:=info_parts info34;cases p0;all_goals
  simp only[Tryd.ntmps23,Sz,Nat.reduceAdd,Nat.reduceSub,Sy]
  go_wp2
  go_ret;exact ⟨_,rfl,rfl,rfl⟩
theorem body9A (h:Rep z S v) (hn:S.n*40<=140737488355328) (h1:∀ u∈S.tr,u.oneCell'=true):
 Body Tryd.f23 #[Pt S.wb 0] v (λr v'=>∃ p g cap,r=.slice p S.n cap∧(0<S.n->p=some ⟨g,0,none⟩∧v.heap.size<=g)∧(∀ j u,S.tr[j]? = some u->v'.cell? ⟨g,j,none⟩=some u)∧Grows v v'):=by
 rcases Nat.eq_zero_or_pos S.n with h0|h0
 .intro code hb
  refine wp_mono (body90 h h0 code hb) (bp_mono λr u hq=>?_);obtain ⟨rfl,rfl⟩:=hq;have hl:S.tr=[]:=by have:=h.own.1;rw[h0] at this;exact List.length_eq_zero_iff.1 (by omega)
  refine ⟨none,0,0,by rw[h0],(λh=>by omega),(λj x hj=>?_),⟨Qi _,λ_ _=>rfl,rfl,rfl⟩⟩;rw[hl] at hj;simp at hj
 .intro code hb
  refine wp_mono (body9 h h0 hn h1 code hb) (bp_mono λr u hq=>?_);obtain ⟨g,cap,rfl,hown,hgr,hle⟩:=hq;refine ⟨_,g,cap,rfl,λ_=>⟨rfl,hle⟩,λj x hj=>?_,hgr⟩;have:=hown.cells (g:=g) rfl j x hj;rw[show (⟨g,0,none⟩:Addr).add j=⟨g,j,none⟩ by unfold Addr.add;split<;>simp_all] at this;exact this
def cellsS (S:TS) (cv:Value) (k:Nat):TS:={ S with cv:=cv,chg:=List.replicate k 0 }
structure Cel (z:Nat->Option Nat) (S:TS) (K:List (Nat×Int)) (v:World) (S':TS) (K':List (Nat×Int)) (v':World):Prop where
 mem:Mem z S' K' v'
 fr:Fr (Own S K) v v'
 own:∀ b,Own S' K' b->Own S K b∨v.heap.size<=b
section
variable {z:Nat->Option Nat}{S S1 S2:TS}{K K1 K2:List (Nat×Int)}{v v1 v2:World}
theorem Cel.refl (h:Mem z S K v):Cel z S K v S K v:=⟨h,Fr.refl _ _,λb h=>.inl h⟩
theorem Cel.trans (h:Cel z S K v S1 K1 v1) (k:Cel z S1 K1 v1 S2 K2 v2):Cel z S K v S2 K2 v2:=by
 refine ⟨k.mem,⟨k.fr.os.trans h.fr.os,k.fr.output.trans h.fr.output,Qk h.fr.size k.fr.size,λb hb hs=>?_⟩,λb hb=>?_⟩;rw[k.fr.block b (Qp hb h.fr.size) (λe=>(h.own b e).elim hs (λe=>by omega)),h.fr.block b hb hs]
 .rcases k.own b hb with e|e
  exact h.own b e;exact .inr (Qk h.fr.size e)
theorem Cel.push (h:Cel z S K v S1 K1 v1) {o:Obj}(e:v2.heap=v1.heap.push o) (e1:v2.os=v1.os) (e2:v2.output=v1.output):Cel z S K v S1 K1 v2:=by
 have g:Grows v1 v2:=⟨by rw[e];simp,λb hb=>by rw[e,Qg,if_neg (by omega)],e1,e2⟩
 exact h.trans ⟨(h.mem.grows g).mem,⟨e1,e2,g.size,λb hb _=>g.old b hb⟩,λb hb=>.inl hb⟩
theorem Cel.same (h:Cel z S K v S1 K1 v1) (e:v2.heap=v1.heap) (e1:v2.os=v1.os) (e2:v2.output=v1.output):Cel z S K v S1 K1 v2:=by
 have g:Grows v1 v2:=⟨by rw[e];exact Qi _,λb hb=>by rw[e],e1,e2⟩
 exact h.trans ⟨(h.mem.grows g).mem,⟨e1,e2,g.size,λb hb _=>g.old b hb⟩,λb hb=>.inl hb⟩
theorem Cel.from (h:Cel z S K v1 S1 K1 v2) (e:v1.heap=v.heap) (e1:v1.os=v.os) (e2:v1.output=v.output):Cel z S K v S1 K1 v2 :=
 ⟨h.mem,⟨h.fr.os.trans e1,h.fr.output.trans e2,by rw[<-e];exact h.fr.size,λb hb hs=>by rw[h.fr.block b (by rw[e];exact hb) hs,e]⟩,λb hb=>by rw[<-e];exact h.own b hb⟩
end
structure Asked (v:World) (S:TS) (n sb so:Nat) (pc:Nat->Option Addr) (ln cp rb:Nat->Nat) (cl:Nat->List Cl):Prop where
 len:∀ j,j<n->(cl j).length=ln j∧ln j<=64
 row:∀ k,k<n->v.cell? ⟨sb,so+k,none⟩=some (.slice (pc k) (ln k) (cp k))
 far:¬ Own S [] sb
 pq:∀ j,j<n->0<ln j->pc j=some ⟨rb j,roOf (pc j),none⟩∧¬ Own S [] (rb j)
 call:∀ j,j<n->∀ (k:Nat) (c:Cl),(cl j)[k]? = some c->v.cell? ⟨rb j,roOf (pc j)+k*4,none⟩=some (I c.po)∧v.cell? ⟨rb j,roOf (pc j)+k*4+1,none⟩=some (I c.ca)∧v.cell? ⟨rb j,roOf (pc j)+k*4+2,none⟩=some (I c.cb)∧v.cell? ⟨rb j,roOf (pc j)+k*4+3,none⟩=some (I c.cc)
 ca:∀ j,j<n->∀ c∈cl j,-9223372036854775808<=c.ca∧c.ca<9223372036854775808
structure Objs (v:World) (S:TS) (xs:List Int) (pk:Nat->Option Obj) (S1:TS) (K:List (Nat×Int)) (u:World):Prop where
 cel:Cel zn S [] v S1 K u
 vals:K.map (·.2)=xs
 st:∃ cv,S1=cellsS S cv xs.length
 has:Has pk u
 new:∀ b,pk b≠none->(v.heap.size<=b∨b≠S.bk)∧¬ Own S1 K b
 row:∀ b o,pk b=some o->∃ c e f,o=.cells c e f
theorem Objs.same {xs:List Int}{pk:Nat->Option Obj}{S1:TS}{K:List (Nat×Int)}{u':World}(h:Objs v S xs pk S1 K u) (e:u'.heap=u.heap) (e1:u'.os=u.os) (e2:u'.output=u.output):Objs v S xs pk S1 K u' :=
 ⟨h.cel.same e e1 e2,h.vals,h.st,λb o hb=>by rw[e];exact h.has b o hb,h.new,h.row⟩
section
variable {v u:World}{S S1:TS}{K:List (Nat×Int)}{n sb so:Nat}{pc:Nat->Option Addr}{ln cp rb:Nat->Nat}{cl:Nat->List Cl}{xs:List Int}{pk:Nat->Option Obj}
theorem told_of (hm:Mem zn S [] v) (hb:Open v S.bk) (t:Asked v S n sb so pc ln cp rb cl) (o:Objs v S xs pk S1 K u):
 Told u S1 K pk n pc ln cp rb cl∧(∀ k,k<n->u.cell? ⟨sb,so+k,none⟩=some (.slice (pc k) (ln k) (cp k)))∧Open u S.bk∧v.heap.size<=u.heap.size ∧
  ∀ b,b<v.heap.size->¬ Own S [] b->u.heap[b]? = v.heap[b]?∧¬ Own S1 K b:=by
 have no:∀ b,b<v.heap.size->¬ Own S [] b->¬ Own S1 K b:=λb hb ho h=>(o.cel.own b h).elim ho (λh=>by omega);have same:∀ b,b<v.heap.size->¬ Own S [] b->u.heap[b]? = v.heap[b]?:=λb hb ho=>o.cel.fr.block b hb ho;have hcell:∀ (a:Addr) (x:Value),¬ Own S [] a.block->v.cell? a=some x->u.cell? a=some x:=λa x ho ha=>by rw[World.cell?_of_block (w:=v) (w':=u) (same a.block (World.block_lt_of_cell? _ _ ha) ho)];exact ha
 have hbkl:S.bk<v.heap.size:=by obtain ⟨c,m,h⟩:=hb;exact (Qb h).1
 have hbk:¬ Own S [] S.bk:=λh=>by obtain ⟨c,m,hh⟩:=hb;obtain ⟨x,e,f,h1⟩:=hm.row h;rw[h1] at hh;cases hh
 have hO:Open u S.bk:=by obtain ⟨c,m,hh⟩:=hb;exact ⟨c,m,by rw[same _ hbkl hbk];exact hh⟩
 have e1:S1.bk=S.bk:=by obtain ⟨cv,rfl⟩:=o.st;rfl
 refine ⟨⟨o.has,λb hb=>⟨(o.new b hb).2,by have:=(o.new b hb).1;rw[e1];rcases this with h|h;omega;exact h⟩,o.row,t.len,λj hj h0=>?_,λj hj k c hc=>?_,t.ca⟩,λk hk=>hcell _ _ t.far (t.row k hk),hO,o.cel.fr.size,λb hb ho=>⟨same b hb ho,no b hb ho⟩⟩
 .have h1:=t.pq j hj h0
  obtain ⟨c,hc⟩:∃ c,(cl j)[0]? = some c:=⟨_,Qf (by have:=t.len j hj;omega)⟩
  have hl:=World.block_lt_of_cell? _ _ (t.call j hj 0 c hc).1;exact ⟨h1.1,no _ hl h1.2⟩
 .have h0:0<ln j:=by have:=(Qc hc).1;have:=t.len j hj;omega
  have ho:=(t.pq j hj h0).2;have h4:=t.call j hj k c hc;exact ⟨hcell _ _ ho h4.1,hcell _ _ ho h4.2.1,hcell _ _ ho h4.2.2.1,hcell _ _ ho h4.2.2.2⟩
end
structure GOut (w:World) (S:TS) (n:Nat) (ln:Nat->Nat) (N:Nat) (S':TS) (K':List (Nat×Int)) (l:Nat->Ph) (w':World):Prop where
 mem:Mem zn S' K' w'
 size:w.heap.size<=w'.heap.size
 low:w.heap.size<=N
 old:∀ b,b<w.heap.size->¬ Own S [] b->b≠S.bk->w'.heap[b]? = w.heap[b]?∧¬ Own S' K' b
 rows:∀ j,j<n->w'.cell? ⟨N+1,j,none⟩=some (.slice (some ⟨N+4+3*j+2,0,none⟩) (ln j) (ln j))
 ans:∀ j,j<n->(l j).ans.length=ln j∧(0<ln j->w'.heap[N+4+3*j+2]? = some (.cells (arow (l j).ans).toArray 38 (0,0)))∧∃ a,l j=.done a
 os:w'.os=w.os
 out:w'.output=w.output
section
variable {mc:Mc}{fid:FuncId}{S:TS}{n sb so:Nat}{pc:Nat->Option Addr}{ln cp rb:Nat->Nat}{cl:Nat->List Cl}{xs:List Int}
theorem gplay_all (P:Pkg mc fid) {Q:Array Value->(Nat->Option Obj)->List (Nat×Int)->Prop}(hQ:∀ caps pk K,Q caps pk K->∀ X:Fix mc,X.fid=fid->X.caps=caps->X.pk=pk->X.kb=K.map (·.1)->P.Mine X)
 {cap:Nat} {cs:List Frame} {bc:Frame} {ac:Act} {ops:Array Oper} {q0:Nat} {rest:List Nat} {oc:Oper} {k0:List Item} {w:World} {T:Trace} {gs:Array Goroutine} {q:Nat->Nat} (sl:Option (Nat×Nat)) (NT:Nat) (A:Alone gs w T q) {g0:Goroutine} (hg:gs[0]? = some g0)
 (hG:GoesI Tryd.prog true (DT (ScZ zn) (λ_=>False)) (λg w'=>∃ (bd:Frame) (ad:Act) (od:Array Oper) (qd:Nat) (rd:List Nat) (oe:Oper) (kd:List Item) (caps:Array Value) (pk:Nat->Option Obj) (S1:TS) (K:List (Nat×Int)),Objs w S xs pk S1 K w'∧Q caps pk K∧od[qd]? = some oe ∧
   (∀ (Ch:Nat->Prop) (Stop:Goroutine->World->Prop) (w1:World) (x:Value),(∀ d,GoesI Tryd.prog true (DT (ScZ zn) Ch) Stop (G (bc.at (ac.put oc.dst (.tuple #[x,I 0])) (.inRegion ops rest :: k0)) cs) (w1.at d))->GoesI Tryd.prog true (DT (ScZ zn) Ch) Stop (G (bd.at (ad.put oe.dst x) (.inRegion od rd :: kd)) (bc.at ac (.inRegion ops (q0 :: rest) :: k0) :: cs)) w1) ∧
   g=G ((base 60).at { tmps:=#[Pt S.wb 0,.slice (some ⟨sb,so,none⟩) n cap,.func (.func fid) (mc.bn caps) (mc.fr caps)]++Array.replicate 36 undef,defers:=[] } [.code B20]) (bd.at ad (.inRegion od (qd :: rd) :: kd) :: bc.at ac (.inRegion ops (q0 :: rest) :: k0) :: cs)) g0 w)
 (hm:Mem zn S [] w) (hthr:S.thr=[]) (hran:S.ran=false) (hbk:Open w S.bk) (t:Asked w S n sb so pc ln cp rb cl) (hn8:0<n∧n<=8)
 (hlen:∀ caps pk N K,S.n+2*lens (scrs mc fid caps pk N n K pc ln cp rb cl)<=1000000) (hsl:S.sched.length<=4611686018427387904) (hsc:∀ x∈S.sched,-9223372036854775808<=x∧x<9223372036854775808) (l0:Nat->Ph)
 (hturn:∀ (caps:Array Value) (pk:Nat->Option Obj) (N:Nat) (cv:Value) (K:List (Nat×Int)),K.map (·.2)=xs->∀ S1 l1,Hires mc 0 (scrs mc fid caps pk N n K pc ln cp rb cl) (nv { cellsS S cv xs.length with ran:=true }) l0 S1 l1->∃ m p',m<=NT∧Turns mc m ⟨S1,K,l1⟩ p'∧p'.S.n*40<=140737488355328):
 ∃ (N':Nat) (gs':Array Goroutine) (w':World) (sl':Option (Nat×Nat)) (T':Trace) (q':Nat->Nat) (caps:Array Value) (pk:Nat->Option Obj) (N:Nat) (cv:Value) (K:List (Nat×Int)) (S':TS) (S1:TS) (l1:Nat->Ph) (m:Nat) (p':PSt),
   runNT Tryd.prog N' (crowd gs w sl) T=(.next (crowd gs' w' sl'),T')∧gs'.size=gs.size+n∧gs'[0]? = some (G (bc.at (ac.put oc.dst (.tuple #[.slice (some ⟨N+1,0,none⟩) n n,I 0])) (.inRegion ops rest :: k0)) cs) ∧
   Alone gs' w' T' q'∧K.map (·.2)=xs∧nv S'=p'.S∧Hires mc 0 (scrs mc fid caps pk N n K pc ln cp rb cl) (nv { cellsS S cv xs.length with ran:=true }) l0 S1 l1∧Turns mc m ⟨S1,K,l1⟩ p'∧GOut w S n ln N S' p'.K p'.l w':=by
 obtain ⟨N1,gs1,a1,w1,sl1,T1,q1,r1,z1,h1,⟨bd,ad,od,qd,rd,oe,kd,caps,pk,S1,K,ho,hq,hoe,hback,rfl⟩,A1⟩:=alone_goes A hg sl hG;obtain ⟨t1,hs1,hbk1,hsz1,hold1⟩:=told_of hm hbk t ho;obtain ⟨cv,rfl⟩:=ho.st;have hsb:sb<w1.heap.size:=World.block_lt_of_cell? _ _ (hs1 0 hn8.1);obtain ⟨N2,gs2,w2,sl2,T2,q2,S2,S3,l1,m,p',r2,z2,h2,A2,hnv,hH,hT,O⟩:=run20_all P (hQ caps pk K hq) (S:=cellsS S cv xs.length) (K:=K) hoe sl1 NT A1 h1 ho.cel.mem hthr hran hbk1 t1 hs1 hsb hn8.2 (hlen _ _ _ _) hsl hsc l0 (hturn _ _ _ cv K ho.vals);obtain ⟨N3,gs3,a3,w3,sl3,T3,q3,r3,z3,h3,⟨rfl,d3,rfl⟩,A3⟩:=alone_goes A2 h2 sl2 (hback (λ_=>False) (λg w'=>g=G (bc.at (ac.put oc.dst (.tuple #[.slice (some ⟨w1.heap.size+1,0,none⟩) n n,I 0])) (.inRegion ops rest :: k0)) cs∧∃ d,w'=w2.at d) w2 _ (λd=>GoesI.stop λd'=>⟨rfl,d',rfl⟩));refine ⟨N1+N2+N3,gs3,w2.at d3,sl3,T3,q3,caps,pk,w1.heap.size,cv,K,S2,S3,l1,m,p',runNT_then (runNT_then r1 r2) r3,by omega,h3,A3,ho.vals,hnv,hH,hT,⟨(O.mem.grows (v':=w2.at d3) ⟨Qi _,λ_ _=>rfl,rfl,rfl⟩).mem,Qk hsz1 O.size,hsz1,λb hb hob hk=>?_,O.rows,O.ans,O.os.trans ho.cel.fr.os,O.out.trans ho.cel.fr.output⟩⟩;have h5:=hold1 b hb hob;have h6:=O.old b (by omega) h5.2 hk;exact ⟨h6.1.trans h5.1,h6.2⟩
end
def lits (u:Nat->Value):Nat->Nat->List Value
 |_,0=>[]
 |s,n+1=>u s :: lits u (s+1) n
theorem lits_get (u:Nat->Value):∀ (n s i:Nat),(lits u s n)[i]? = if i<n then some (u (s+i)) else none
 |0,s,i=>by simp[lits]
 |n+1,s,0=>by simp[lits]
 |n+1,s,i+1=>by have:=lits_get u n (s+1) i;simp only[lits,List.getElem?_cons_succ,this,Nat.add_lt_add_iff_right];rw[show s+1+i=s+(i+1) by omega]
theorem litN (h:a.tmps.size=n) (hd:a.defers=[]):∃ u:Nat->Value,a={ tmps:=(lits u 0 n).toArray,defers:=[] }∧∀ i,a.tmps.getD i undef=u i:=by
 obtain ⟨⟨l⟩,ds⟩:=a;simp only at hd h;subst hd;refine ⟨λi=>(Array.mk l).getD i undef,?_,λi=>rfl⟩;have e:l=lits (λi=>(Array.mk l).getD i undef) 0 n:=by
  apply List.ext_getElem?;intro i;rw[lits_get];have hl:l.length=n:=h;by_cases hi:i<n
  .rw[if_pos hi,Qf (by omega)]
   simp[Array.getD,hl,hi]
  rw[if_neg hi,List.getElem?_eq_none (by omega)]
 exact congrArg (λx=>({ tmps:=x.toArray,defers:=[] }:Act)) e
def Fl (n:Nat) (l:List (Nat×Value)) (a:Act):Prop:=a.tmps.size=n∧a.defers=[]∧∀ p∈l,a.tmps.getD p.1 undef=p.2
theorem Fl.sub {l l':List (Nat×Value)}(h:Fl n l a) (hs:∀ p∈l',p∈l):Fl n l' a:=⟨h.1,h.2.1,λp hp=>h.2.2 p (hs p hp)⟩
theorem Fl.at {l:List (Nat×Value)}(h:Fl n l a) (k:Nat) (v:Value) (hs:(k,v)∈l):a.eval (.tmp k)=v:=h.2.2 (k,v) hs
def padd (pk:Nat->Option Obj) (b:Nat) (o:Obj):Nat->Option Obj:=λx=>if x=b then some o else pk x
theorem padd_at (pk:Nat->Option Obj) (b:Nat) (o:Obj):padd pk b o b=some o:=by unfold padd;rw[if_pos rfl]
theorem padd_ne {pk:Nat->Option Obj}{b x:Nat}{o:Obj}(h:x≠b):padd pk b o x=pk x:=by unfold padd;rw[if_neg h]
theorem cell_of {b j:Nat}{c:Array Value}{t:TypeId}{f:Nat×Nat}{x:Value}(h:v.heap[b]? = some (.cells c t f)) (hj:c[j]? = some x):v.cell? ⟨b,j,none⟩=some x:=by unfold World.cell?;rw[h];exact hj
section
variable {v u u':World}{S S1:TS}{K:List (Nat×Int)}{xs:List Int}{pk:Nat->Option Obj}
theorem Objs.start (hm:Mem zn S [] v) (hch:S.chg=[]):Objs v S [] (λ_=>none) S [] v :=
 ⟨Cel.refl hm,rfl,⟨S.cv,by unfold cellsS;rw[List.length_nil,List.replicate_zero,<-hch]⟩,λb o h=>(by cases h),λb h=>absurd rfl h,λb o h=>(by cases h)⟩
theorem Objs.startG (hm:Mem zn S [] v) (hch:S.chg=[]) (hpk:Has pk v) (hf:∀ b,pk b≠none->¬ Own S [] b∧b≠S.bk) (hr:∀ b o,pk b=some o->∃ c e f,o=.cells c e f):Objs v S [] pk S [] v :=
 ⟨Cel.refl hm,rfl,⟨S.cv,by unfold cellsS;rw[List.length_nil,List.replicate_zero,<-hch]⟩,hpk,λb h=>⟨.inr (hf b h).2,(hf b h).1⟩,hr⟩
theorem Objs.push (h:Objs v S xs pk S1 K u) {c:Array Value}{t:TypeId}(e:u'.heap=u.heap.push (.cells c t)) (e1:u'.os=u.os) (e2:u'.output=u.output):Objs v S xs (padd pk u.heap.size (.cells c t)) S1 K u':=by
 refine ⟨h.cel.push e e1 e2,h.vals,h.st,λb o hb=>?_,λb hb=>?_,λb o hb=>?_⟩
 .by_cases hbu:b=u.heap.size
  .subst hbu
   rw[padd_at] at hb;cases hb;rw[e];exact Qo
  .rw[padd_ne hbu] at hb
   have:=h.has b o hb;have hl:=(Qb this).1;rw[e,Qg,if_neg (by omega)];exact this
 .by_cases hbu:b=u.heap.size
  .subst hbu
   exact ⟨.inl h.cel.fr.size,λho=>by have:=h.cel.mem.lt ho;omega⟩
  .rw[padd_ne hbu] at hb
   exact h.new b hb
 .by_cases hbu:b=u.heap.size
  .subst hbu
   rw[padd_at] at hb;cases hb;exact ⟨_,_,_,rfl⟩
  .rw[padd_ne hbu] at hb
   exact h.row b o hb
theorem Objs.more (h:Objs v S xs pk S1 K u) {S2:TS}{K2:List (Nat×Int)}{ys:List Int}(c:Cel zn S1 K u S2 K2 u') (hv:K2.map (·.2)=ys) (hs:∃ cv,S2=cellsS S cv ys.length):Objs v S ys pk S2 K2 u':=by
 have hl:∀ b o,pk b=some o->b<u.heap.size:=λb o hb=>(Qb (h.has b o hb)).1;refine ⟨h.cel.trans c,hv,hs,λb o hb=>?_,λb hb=>?_,h.row⟩
 .rw[c.fr.block b (hl b o hb) (h.new b (by rw[hb];simp)).2]
  exact h.has b o hb
 .obtain ⟨o,ho⟩:=Option.ne_none_iff_exists'.1 hb
  refine ⟨(h.new b hb).1,λho'=>?_⟩;rcases c.own b ho' with e|e;exact (h.new b hb).2 e;have:=hl b o ho;omega
theorem Objs.cell (h:Objs v S xs pk S1 K u) (x:Int) (hl:xs.length<=1000000):Calls Tryd.prog 70 #[Pt S.wb 0,I x] u (λe w'=>∃ cb,e=.returned (Pt cb 0)∧u.heap.size<=w'.heap.size∧∃ S2,Objs v S (xs++[x]) pk S2 (K++[(cb,x)]) w'):=by obtain ⟨cv,rfl⟩:=h.st;have h10:=(body10 h.cel.mem x (by show (List.replicate xs.length (0:Int)).length<=_;simp;omega)).calls Tryd.func70 rfl;refine h10.mono ?_;rintro e w' ⟨r,rfl,cb,cv',rfl,hm1,hf1,hn1⟩;refine ⟨cb,rfl,hf1.size,_,h.more ⟨hm1,hf1,hn1⟩ (by rw[List.map_append,h.vals];rfl) ⟨cv',?_⟩⟩;unfold celledS cellsS;simp only[Qj,List.length_cons,List.length_nil,Nat.zero_add,List.replicate_succ']
end
theorem goesI_retZ {Ch:Nat->Prop}{Stop:Goroutine->World->Prop}{main:Bool}{f:FuncId}{c:Code}{act:Act}{more:List Item}{cs:List Frame}{w:World}{Q:Act->World->Prop}(hvw:Rel zn v w) (hn:NoRow Ch v) (hc:fineCode Tryd.prog true LV c) (ha:act.defers=[])
 (hwp:∀ τ,c.wp Tryd.prog (λe a w'=>e=.ret∧Q a w') act (onTape v τ 0))
 (h:∀ a' v' w' todo,Q a' v'->a'.defers=[]->Rel zn v' w'->NoRow Ch v'->GoesI Tryd.prog main (DT (ScZ zn) Ch) Stop (G { (base f).at a' todo with mode:=.returning } cs) w'):
 GoesI Tryd.prog main (DT (ScZ zn) Ch) Stop (G ((base f).at act (.code c :: more)) cs) w:=by
 have hfin:=lift_code (P:=Tryd.prog) (z:=zn) (wr:=true) (L:=LV) (D:=DT (ScZ zn) Ch) (I:=NoRow Ch) (main:=main) (b:=base f) (k:=more) (cs:=cs) hE fineV noRow_keeps (λv v' w w' es hi hr ho he=>dt_of_z v v' w w' es hi hr ho he) hvw hc ha (by simp[base]) hn
  (Q:=λe a w'=>e=.ret∧Q a w') hwp (λe a w hq=>.inr hq.1)
 refine hfin.then ?_
 rintro g w' ⟨a',v',hr,hiv,hd,⟨⟨hq,_⟩,_⟩|⟨⟨_,hQ⟩,todo,rfl⟩⟩;cases hq;exact h a' v' w' todo hQ hd hr hiv
theorem _root_.Go.Proofs.YtfjjoohflcchnaaDoor.Grows.toAt {W v w:World}(h:Grows W v) (hr:Rel zn v w) (d:Nat):Grows W (w.at d):=by have e:(w.at d).heap=v.heap:=hr.eq;exact ⟨by rw[e];exact h.size,λb hb=>by rw[e];exact h.old b hb,hr.os.trans h.os,hr.output.trans h.output⟩
theorem _root_.Go.Proofs.YtfjjoohflcchnaaDoor.Grows.andThen {W v w:World}(h:Grows W v) (k:Grows v w):Grows W w:=⟨Qk h.size k.size,λb hb=>by rw[k.old b (by have:=h.size;omega),h.old b hb],k.os.trans h.os,k.output.trans h.output⟩
def PostT (W:World) (r:Value) (w':World):Prop:=r=.bool true∧Grows W w'
end Go.Proofs.YtfjjoohflcchnaaDoor.Gen
namespace Go.Proofs.YtfjjoohflcchnaaDoor
open Go Go.Lift Go.Conc Go.RowKit
def plainX3:List FuncId:=[62,104,108,111,107,128,118,157,74,109,110,105,68,99,71,72,87,89,90,132,39,54,78,17,23,70,26,59,103,92,32,19,58,30,20,21,22,27,31,34,35,36,37,38,44,45,46,47,48,53,56,24,49,50,82,83,84,85,113,114,115,116,117,133,134,135,158,159,91,96]
def LX3 (f:FuncId):Prop:=f∈plainX3
theorem callX3:∀ f∈plainX3,Callable Tryd.prog LX3 f:=by
 intro f hf;have hf':=hf;simp only[plainX3,List.mem_cons,List.not_mem_nil,or_false] at hf;rcases hf with rfl|rfl|rfl|rfl|rfl|rfl|rfl|rfl|rfl|rfl|rfl|rfl|rfl|rfl|rfl|rfl|rfl|rfl|rfl|rfl|rfl|rfl|rfl|rfl|rfl|rfl|rfl|rfl|rfl|rfl|rfl|rfl|rfl|rfl|rfl|rfl|rfl|rfl|rfl|rfl|rfl|rfl|rfl|rfl|rfl|rfl|rfl|rfl|rfl|rfl|rfl|rfl|rfl|rfl|rfl|rfl|rfl|rfl|rfl|rfl|rfl|rfl|rfl|rfl|rfl|rfl|rfl|rfl|rfl|rfl;exact ⟨hf',Tryd.f62,Tryd.func62,by kernel_rfl,by kernel_rfl⟩;exact ⟨hf',Tryd.f104,Tryd.func104,by kernel_rfl,by kernel_rfl⟩;exact ⟨hf',Tryd.f108,Tryd.func108,by kernel_rfl,by kernel_rfl⟩;exact ⟨hf',Tryd.f111,Tryd.func111,by kernel_rfl,by kernel_rfl⟩;exact ⟨hf',Tryd.f107,Tryd.func107,by kernel_rfl,by kernel_rfl⟩;exact ⟨hf',Tryd.f128,Tryd.func128,by kernel_rfl,by kernel_rfl⟩;exact ⟨hf',Tryd.f118,Tryd.func118,by kernel_rfl,by kernel_rfl⟩;exact ⟨hf',Tryd.f157,Tryd.func157,by kernel_rfl,by kernel_rfl⟩;exact ⟨hf',Tryd.f74,Tryd.func74,by kernel_rfl,by kernel_rfl⟩;exact ⟨hf',Tryd.f109,Tryd.func109,by kernel_rfl,by kernel_rfl⟩;exact ⟨hf',Tryd.f110,Tryd.func110,by kernel_rfl,by kernel_rfl⟩;exact ⟨hf',Tryd.f105,Tryd.func105,by kernel_rfl,by kernel_rfl⟩;exact ⟨hf',Tryd.f68,Tryd.func68,by kernel_rfl,by kernel_rfl⟩;exact ⟨hf',Tryd.f99,Tryd.func99,by kernel_rfl,by kernel_rfl⟩;exact ⟨hf',Tryd.f71,Tryd.func71,by kernel_rfl,by kernel_rfl⟩;exact ⟨hf',Tryd.f72,Tryd.func72,by kernel_rfl,by kernel_rfl⟩;exact ⟨hf',Tryd.f87,Tryd.func87,by kernel_rfl,by kernel_rfl⟩
 exact ⟨hf',Tryd.f89,Tryd.func89,by kernel_rfl,by kernel_rfl⟩;exact ⟨hf',Tryd.f90,Tryd.func90,by kernel_rfl,by kernel_rfl⟩;exact ⟨hf',Tryd.f132,Tryd.func132,by kernel_rfl,by kernel_rfl⟩;exact ⟨hf',Tryd.f39,Tryd.func39,by kernel_rfl,by kernel_rfl⟩;exact ⟨hf',Tryd.f54,Tryd.func54,by kernel_rfl,by kernel_rfl⟩;exact ⟨hf',Tryd.f78,Tryd.func78,by kernel_rfl,by kernel_rfl⟩;exact ⟨hf',Tryd.f17,Tryd.func17,by kernel_rfl,by kernel_rfl⟩;exact ⟨hf',Tryd.f23,Tryd.func23,by kernel_rfl,by kernel_rfl⟩;exact ⟨hf',Tryd.f70,Tryd.func70,by kernel_rfl,by kernel_rfl⟩;exact ⟨hf',Tryd.f26,Tryd.func26,by kernel_rfl,by kernel_rfl⟩;exact ⟨hf',Tryd.f59,Tryd.func59,by kernel_rfl,by kernel_rfl⟩;exact ⟨hf',Tryd.f103,Tryd.func103,by kernel_rfl,by kernel_rfl⟩;exact ⟨hf',Tryd.f92,Tryd.func92,by kernel_rfl,by kernel_rfl⟩;exact ⟨hf',Tryd.f32,Tryd.func32,by kernel_rfl,by kernel_rfl⟩;exact ⟨hf',Tryd.f19,Tryd.func19,by kernel_rfl,by kernel_rfl⟩;exact ⟨hf',Tryd.f58,Tryd.func58,by kernel_rfl,by kernel_rfl⟩;exact ⟨hf',Tryd.f30,Tryd.func30,by kernel_rfl,by kernel_rfl⟩;exact ⟨hf',Tryd.f20,Tryd.func20,by kernel_rfl,by kernel_rfl⟩;exact ⟨hf',Tryd.f21,Tryd.func21,by kernel_rfl,by kernel_rfl⟩;exact ⟨hf',Tryd.f22,Tryd.func22,by kernel_rfl,by kernel_rfl⟩;exact ⟨hf',Tryd.f27,Tryd.func27,by kernel_rfl,by kernel_rfl⟩;exact ⟨hf',Tryd.f31,Tryd.func31,by kernel_rfl,by kernel_rfl⟩;exact ⟨hf',Tryd.f34,Tryd.func34,by kernel_rfl,by kernel_rfl⟩;exact ⟨hf',Tryd.f35,Tryd.func35,by kernel_rfl,by kernel_rfl⟩
 exact ⟨hf',Tryd.f36,Tryd.func36,by kernel_rfl,by kernel_rfl⟩;exact ⟨hf',Tryd.f37,Tryd.func37,by kernel_rfl,by kernel_rfl⟩;exact ⟨hf',Tryd.f38,Tryd.func38,by kernel_rfl,by kernel_rfl⟩;exact ⟨hf',Tryd.f44,Tryd.func44,by kernel_rfl,by kernel_rfl⟩;exact ⟨hf',Tryd.f45,Tryd.func45,by kernel_rfl,by kernel_rfl⟩;exact ⟨hf',Tryd.f46,Tryd.func46,by kernel_rfl,by kernel_rfl⟩;exact ⟨hf',Tryd.f47,Tryd.func47,by kernel_rfl,by kernel_rfl⟩;exact ⟨hf',Tryd.f48,Tryd.func48,by kernel_rfl,by kernel_rfl⟩;exact ⟨hf',Tryd.f53,Tryd.func53,by kernel_rfl,by kernel_rfl⟩;exact ⟨hf',Tryd.f56,Tryd.func56,by kernel_rfl,by kernel_rfl⟩;exact ⟨hf',Tryd.f24,Tryd.func24,by kernel_rfl,by kernel_rfl⟩;exact ⟨hf',Tryd.f49,Tryd.func49,by kernel_rfl,by kernel_rfl⟩;exact ⟨hf',Tryd.f50,Tryd.func50,by kernel_rfl,by kernel_rfl⟩;exact ⟨hf',Tryd.f82,Tryd.func82,by kernel_rfl,by kernel_rfl⟩;exact ⟨hf',Tryd.f83,Tryd.func83,by kernel_rfl,by kernel_rfl⟩;exact ⟨hf',Tryd.f84,Tryd.func84,by kernel_rfl,by kernel_rfl⟩;exact ⟨hf',Tryd.f85,Tryd.func85,by kernel_rfl,by kernel_rfl⟩;exact ⟨hf',Tryd.f113,Tryd.func113,by kernel_rfl,by kernel_rfl⟩;exact ⟨hf',Tryd.f114,Tryd.func114,by kernel_rfl,by kernel_rfl⟩;exact ⟨hf',Tryd.f115,Tryd.func115,by kernel_rfl,by kernel_rfl⟩;exact ⟨hf',Tryd.f116,Tryd.func116,by kernel_rfl,by kernel_rfl⟩;exact ⟨hf',Tryd.f117,Tryd.func117,by kernel_rfl,by kernel_rfl⟩;exact ⟨hf',Tryd.f133,Tryd.func133,by kernel_rfl,by kernel_rfl⟩;exact ⟨hf',Tryd.f134,Tryd.func134,by kernel_rfl,by kernel_rfl⟩
 exact ⟨hf',Tryd.f135,Tryd.func135,by kernel_rfl,by kernel_rfl⟩;exact ⟨hf',Tryd.f158,Tryd.func158,by kernel_rfl,by kernel_rfl⟩;exact ⟨hf',Tryd.f159,Tryd.func159,by kernel_rfl,by kernel_rfl⟩;exact ⟨hf',Tryd.f91,Tryd.func91,by kernel_rfl,by kernel_rfl⟩;exact ⟨hf',Tryd.f96,Tryd.func96,by kernel_rfl,by kernel_rfl⟩
theorem fineX3:∀ f,LX3 f->fineFn Tryd.prog true LX3 f:=by
 intro f hf;simp only[LX3,plainX3,List.mem_cons,List.not_mem_nil,or_false] at hf;rcases hf with rfl|rfl|rfl|rfl|rfl|rfl|rfl|rfl|rfl|rfl|rfl|rfl|rfl|rfl|rfl|rfl|rfl|rfl|rfl|rfl|rfl|rfl|rfl|rfl|rfl|rfl|rfl|rfl|rfl|rfl|rfl|rfl|rfl|rfl|rfl|rfl|rfl|rfl|rfl|rfl|rfl|rfl|rfl|rfl|rfl|rfl|rfl|rfl|rfl|rfl|rfl|rfl|rfl|rfl|rfl|rfl|rfl|rfl|rfl|rfl|rfl|rfl|rfl|rfl|rfl|rfl|rfl|rfl|rfl|rfl;exact fineFn_askS callX3 extT Tryd.func62 (c:=Tryd.f62.body.getD .skip) (by rfl) (by kernel_rfl);exact fineFn_askS callX3 extT Tryd.func104 (c:=Tryd.f104.body.getD .skip) (by rfl) (by kernel_rfl);exact fineFn_askS callX3 extT Tryd.func108 (c:=Tryd.f108.body.getD .skip) (by rfl) (by kernel_rfl);exact fineFn_askS callX3 extT Tryd.func111 (c:=Tryd.f111.body.getD .skip) (by rfl) (by kernel_rfl);exact fineFn_askS callX3 extT Tryd.func107 (c:=Tryd.f107.body.getD .skip) (by rfl) (by kernel_rfl);exact fineFn_askS callX3 extT Tryd.func128 (c:=Tryd.f128.body.getD .skip) (by rfl) (by kernel_rfl);exact fineFn_askS callX3 extT Tryd.func118 (c:=Tryd.f118.body.getD .skip) (by rfl) (by kernel_rfl);exact fineFn_askS callX3 extT Tryd.func157 (c:=Tryd.f157.body.getD .skip) (by rfl) (by kernel_rfl);exact fineFn_askS callX3 extT Tryd.func74 (c:=Tryd.f74.body.getD .skip) (by rfl) (by kernel_rfl);exact fineFn_askS callX3 extT Tryd.func109 (c:=Tryd.f109.body.getD .skip) (by rfl) (by kernel_rfl);exact fineFn_askS callX3 extT Tryd.func110 (c:=Tryd.f110.body.getD .skip) (by rfl) (by kernel_rfl)
 exact fineFn_askS callX3 extT Tryd.func105 (c:=Tryd.f105.body.getD .skip) (by rfl) (by kernel_rfl);exact fineFn_askS callX3 extT Tryd.func68 (c:=Tryd.f68.body.getD .skip) (by rfl) (by kernel_rfl);exact fineFn_askS callX3 extT Tryd.func99 (c:=Tryd.f99.body.getD .skip) (by rfl) (by kernel_rfl);exact fineFn_askS callX3 extT Tryd.func71 (c:=Tryd.f71.body.getD .skip) (by rfl) (by kernel_rfl);exact fineFn_askS callX3 extT Tryd.func72 (c:=Tryd.f72.body.getD .skip) (by rfl) (by kernel_rfl);exact fineFn_askS callX3 extT Tryd.func87 (c:=Tryd.f87.body.getD .skip) (by rfl) (by kernel_rfl);exact fineFn_askS callX3 extT Tryd.func89 (c:=Tryd.f89.body.getD .skip) (by rfl) (by kernel_rfl);exact fineFn_askS callX3 extT Tryd.func90 (c:=Tryd.f90.body.getD .skip) (by rfl) (by kernel_rfl);exact fineFn_askS callX3 extT Tryd.func132 (c:=Tryd.f132.body.getD .skip) (by rfl) (by kernel_rfl);exact fineFn_askS callX3 extT Tryd.func39 (c:=Tryd.f39.body.getD .skip) (by rfl) (by kernel_rfl);exact fineFn_askS callX3 extT Tryd.func54 (c:=Tryd.f54.body.getD .skip) (by rfl) (by kernel_rfl);exact fineFn_askS callX3 extT Tryd.func78 (c:=Tryd.f78.body.getD .skip) (by rfl) (by kernel_rfl);exact fineFn_askS callX3 extT Tryd.func17 (c:=Tryd.f17.body.getD .skip) (by rfl) (by kernel_rfl);exact fineFn_askS callX3 extT Tryd.func23 (c:=Tryd.f23.body.getD .skip) (by rfl) (by kernel_rfl);exact fineFn_askS callX3 extT Tryd.func70 (c:=Tryd.f70.body.getD .skip) (by rfl) (by kernel_rfl)
 exact fineFn_askS callX3 extT Tryd.func26 (c:=Tryd.f26.body.getD .skip) (by rfl) (by kernel_rfl);exact fineFn_askS callX3 extT Tryd.func59 (c:=Tryd.f59.body.getD .skip) (by rfl) (by kernel_rfl);exact fineFn_askS callX3 extT Tryd.func103 (c:=Tryd.f103.body.getD .skip) (by rfl) (by kernel_rfl);exact fineFn_askS callX3 extT Tryd.func92 (c:=Tryd.f92.body.getD .skip) (by rfl) (by kernel_rfl);exact fineFn_askS callX3 extT Tryd.func32 (c:=Tryd.f32.body.getD .skip) (by rfl) (by kernel_rfl);exact fineFn_askS callX3 extT Tryd.func19 (c:=Tryd.f19.body.getD .skip) (by rfl) (by kernel_rfl);exact fineFn_askS callX3 extT Tryd.func58 (c:=Tryd.f58.body.getD .skip) (by rfl) (by kernel_rfl);exact fineFn_askS callX3 extT Tryd.func30 (c:=Tryd.f30.body.getD .skip) (by rfl) (by kernel_rfl);exact fineFn_askS callX3 extT Tryd.func20 (c:=Tryd.f20.body.getD .skip) (by rfl) (by kernel_rfl);exact fineFn_askS callX3 extT Tryd.func21 (c:=Tryd.f21.body.getD .skip) (by rfl) (by kernel_rfl);exact fineFn_askS callX3 extT Tryd.func22 (c:=Tryd.f22.body.getD .skip) (by rfl) (by kernel_rfl);exact fineFn_askS callX3 extT Tryd.func27 (c:=Tryd.f27.body.getD .skip) (by rfl) (by kernel_rfl);exact fineFn_askS callX3 extT Tryd.func31 (c:=Tryd.f31.body.getD .skip) (by rfl) (by kernel_rfl);exact fineFn_askS callX3 extT Tryd.func34 (c:=Tryd.f34.body.getD .skip) (by rfl) (by kernel_rfl);exact fineFn_askS callX3 extT Tryd.func35 (c:=Tryd.f35.body.getD .skip) (by rfl) (by kernel_rfl)
 exact fineFn_askS callX3 extT Tryd.func36 (c:=Tryd.f36.body.getD .skip) (by rfl) (by kernel_rfl);exact fineFn_askS callX3 extT Tryd.func37 (c:=Tryd.f37.body.getD .skip) (by rfl) (by kernel_rfl);exact fineFn_askS callX3 extT Tryd.func38 (c:=Tryd.f38.body.getD .skip) (by rfl) (by kernel_rfl);exact fineFn_askS callX3 extT Tryd.func44 (c:=Tryd.f44.body.getD .skip) (by rfl) (by kernel_rfl);exact fineFn_askS callX3 extT Tryd.func45 (c:=Tryd.f45.body.getD .skip) (by rfl) (by kernel_rfl);exact fineFn_askS callX3 extT Tryd.func46 (c:=Tryd.f46.body.getD .skip) (by rfl) (by kernel_rfl);exact fineFn_askS callX3 extT Tryd.func47 (c:=Tryd.f47.body.getD .skip) (by rfl) (by kernel_rfl);exact fineFn_askS callX3 extT Tryd.func48 (c:=Tryd.f48.body.getD .skip) (by rfl) (by kernel_rfl);exact fineFn_askS callX3 extT Tryd.func53 (c:=Tryd.f53.body.getD .skip) (by rfl) (by kernel_rfl);exact fineFn_askS callX3 extT Tryd.func56 (c:=Tryd.f56.body.getD .skip) (by rfl) (by kernel_rfl);exact fineFn_askS callX3 extT Tryd.func24 (c:=Tryd.f24.body.getD .skip) (by rfl) (by kernel_rfl);exact fineFn_askS callX3 extT Tryd.func49 (c:=Tryd.f49.body.getD .skip) (by rfl) (by kernel_rfl);exact fineFn_askS callX3 extT Tryd.func50 (c:=Tryd.f50.body.getD .skip) (by rfl) (by kernel_rfl);exact fineFn_askS callX3 extT Tryd.func82 (c:=Tryd.f82.body.getD .skip) (by rfl) (by kernel_rfl);exact fineFn_askS callX3 extT Tryd.func83 (c:=Tryd.f83.body.getD .skip) (by rfl) (by kernel_rfl)
 exact fineFn_askS callX3 extT Tryd.func84 (c:=Tryd.f84.body.getD .skip) (by rfl) (by kernel_rfl);exact fineFn_askS callX3 extT Tryd.func85 (c:=Tryd.f85.body.getD .skip) (by rfl) (by kernel_rfl);exact fineFn_askS callX3 extT Tryd.func113 (c:=Tryd.f113.body.getD .skip) (by rfl) (by kernel_rfl);exact fineFn_askS callX3 extT Tryd.func114 (c:=Tryd.f114.body.getD .skip) (by rfl) (by kernel_rfl);exact fineFn_askS callX3 extT Tryd.func115 (c:=Tryd.f115.body.getD .skip) (by rfl) (by kernel_rfl);exact fineFn_askS callX3 extT Tryd.func116 (c:=Tryd.f116.body.getD .skip) (by rfl) (by kernel_rfl);exact fineFn_askS callX3 extT Tryd.func117 (c:=Tryd.f117.body.getD .skip) (by rfl) (by kernel_rfl);exact fineFn_askS callX3 extT Tryd.func133 (c:=Tryd.f133.body.getD .skip) (by rfl) (by kernel_rfl);exact fineFn_askS callX3 extT Tryd.func134 (c:=Tryd.f134.body.getD .skip) (by rfl) (by kernel_rfl);exact fineFn_askS callX3 extT Tryd.func135 (c:=Tryd.f135.body.getD .skip) (by rfl) (by kernel_rfl);exact fineFn_askS callX3 extT Tryd.func158 (c:=Tryd.f158.body.getD .skip) (by rfl) (by kernel_rfl);exact fineFn_askS callX3 extT Tryd.func159 (c:=Tryd.f159.body.getD .skip) (by rfl) (by kernel_rfl);exact fineFn_askS callX3 extT Tryd.func91 (c:=Tryd.f91.body.getD .skip) (by rfl) (by kernel_rfl);exact fineFn_askS callX3 extT Tryd.func96 (c:=Tryd.f96.body.getD .skip) (by rfl) (by kernel_rfl)
end Go.Proofs.YtfjjoohflcchnaaDoor
namespace Go.Proofs.YtfjjoohflcchnaaDoor.Gen
open Go Go.Lift Go.Conc Go.RowKit
theorem goesI_retX {Ch:Nat->Prop}{Stop:Goroutine->World->Prop}{main:Bool}{f:FuncId}{c:Code}{act:Act}{more:List Item}{cs:List Frame}{v w:World}{Q:Act->World->Prop}(hvw:Rel zn v w) (hn:NoRow Ch v) (hc:fineCode Tryd.prog true LX3 c) (ha:act.defers=[])
 (hwp:∀ τ,c.wp Tryd.prog (λe a w'=>e=.ret∧Q a w') act (onTape v τ 0))
 (h:∀ a' v' w' todo,Q a' v'->a'.defers=[]->Rel zn v' w'->NoRow Ch v'->GoesI Tryd.prog main (DT (ScZ zn) Ch) Stop (G { (base f).at a' todo with mode:=.returning } cs) w'):
 GoesI Tryd.prog main (DT (ScZ zn) Ch) Stop (G ((base f).at act (.code c :: more)) cs) w:=by
 have hfin:=lift_code (P:=Tryd.prog) (z:=zn) (wr:=true) (L:=LX3) (D:=DT (ScZ zn) Ch) (I:=NoRow Ch) (main:=main) (b:=base f) (k:=more) (cs:=cs) hE fineX3 noRow_keeps (λv v' w w' es hi hr ho he=>dt_of_z v v' w w' es hi hr ho he) hvw hc ha (by simp[base]) hn
  (Q:=λe a w'=>e=.ret∧Q a w') hwp (λe a w hq=>.inr hq.1)
 refine hfin.then ?_
 rintro g w' ⟨a',v',hr,hiv,hd,⟨⟨hq,_⟩,_⟩|⟨⟨_,hQ⟩,todo,rfl⟩⟩;cases hq;exact h a' v' w' todo hQ hd hr hiv
end Go.Proofs.YtfjjoohflcchnaaDoor.Gen
