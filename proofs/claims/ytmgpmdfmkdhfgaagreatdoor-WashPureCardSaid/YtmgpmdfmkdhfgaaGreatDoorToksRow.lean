import Derived.Test.YtmgpmdfmkdhfgaaGreatDoorRows
import Derived.Test.YtmgpmdfmkdhfgaaGreatDoorBaseN
import Derived.Shelf.Vars
import Derived.Deep.Strs
import Derived.Deep.SlicePairs
import Derived.Carry
namespace Go.Proofs.YtmgpmdfmkdhfgaaGreatDoor
open Go.RowKit Go.WideShapes Go.ChangeShapes
set_option linter.unusedVariables false
set_option maxRecDepth 100000
theorem cellsAttrT:Tryz.prog.cellsOf 47 = 2:=by kernel_rfl
theorem cellsStrT:Tryz.prog.cellsOf 9 = 1:=by kernel_rfl
theorem cellsAttrsT:Tryz.prog.cellsOf 34 = 1:=by kernel_rfl
theorem attrsIn_of_cells {H:Type} {enc:TypeId × Value -> H} {W:World} {n:Nat} {v:Value} {y:DataW H × List MemPlace} (h:DataW.trod enc Tryz.prog W 0 (fun _=>true) true n 34 [v] = some y) :
  ∃ F:List AtL,AttrsIn W v F:=by
 rcases Deep.open_slice Tryz.underlying34 h with ⟨hcs,_⟩ | ⟨a,len,cap,m,k,D,Pl,hcs,_,hl,hm,hmm,_,hx⟩
 ·obtain rfl:v = .slice none 0 0:=by simpa using hcs
  exact ⟨[],.inl ⟨rfl,rfl⟩⟩
 ·obtain rfl:v = .slice (some a) len cap:=by simpa using hcs
  have hmc:m = cap:=by rw [hmm];simp
  subst hmc
  have each:∀ i,i < m -> ∃ s:ByteArray × ByteArray,W.cell? (a.add (i * 2)) = some (.string s.1) /\ W.cell? (a.add (i * 2 + 1)) = some (.string s.2):=by
   intro i hi;obtain ⟨cs',h1,h2⟩:=hx i hi;rw [cellsAttrT] at h1;obtain ⟨_,hlen,hcell⟩:=World.cells?_some h1;obtain ⟨xs,k',_,_,_,hxl,hf⟩:=DataW.trod_struct Tryz.underlying47 h2
   match xs,hxl,cs',hlen with
   | [y0,y1],_,[v0,v1],_ =>
    have g0:DataW.trod enc Tryz.prog W 0 (fun _=>true) true k' 9 [v0] = some y0:=by simpa [cellsStrT] using hf 0 _ rfl
    have g1:DataW.trod enc Tryz.prog W 0 (fun _=>true) true k' 9 [v1] = some y1:=by simpa [cellsStrT] using hf 1 _ rfl
    obtain ⟨s0,q0,_⟩:=DataW.trod_string Tryz.underlying9 g0;obtain ⟨s1,q1,_⟩:=DataW.trod_string Tryz.underlying9 g1;obtain rfl:v0 = .string s0:=by simpa using q0
    obtain rfl:v1 = .string s1:=by simpa using q1
    have e0:=hcell 0 (by omega);have e1:=hcell 1 (by omega);rw [Addr.add_add] at e0 e1;exact ⟨(s0,s1),by simpa using e0,by simpa using e1⟩
  obtain ⟨Sx,hS⟩:=Deep.choose_lt each;refine ⟨(List.range len).map fun i=>((Sx i).1.data.toList,(Sx i).2.data.toList),.inr ⟨a,m,by simp,by simpa using hl,hm,fun j f hj=>?_⟩⟩;rw [List.getElem?_map] at hj;obtain ⟨i,hi,rfl⟩:=Option.map_eq_some_iff.1 hj;obtain ⟨hj',hi'⟩:=List.getElem?_eq_some_iff.1 hi;rw [List.getElem_range] at hi';subst hi';rw [List.length_range] at hj';obtain ⟨c0,c1⟩:=hS j (by omega);rw [str_of,str_of];exact ⟨c0,c1⟩
instance:Inhabited TokL:=⟨⟨0,[],[],[]⟩⟩
end Go.Proofs.YtmgpmdfmkdhfgaaGreatDoor
