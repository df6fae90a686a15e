import Derived.Test.YtmgpmdfmkdhfgaaGreatDoorToksRow
import Derived.Test.YtmgpmdfmkdhfgaaGreatDoorBaseN
namespace Go.Proofs.YtmgpmdfmkdhfgaaGreatDoor
open Go.RowKit Go.WideShapes Go.ChangeShapes
set_option linter.unusedVariables false
set_option maxRecDepth 100000
theorem cellsNodeT:Tryz.prog.cellsOf 36 = 4:=by kernel_rfl
theorem cellsNodesT:Tryz.prog.cellsOf 25 = 1:=by kernel_rfl
def NodeOne (C:Nat -> Prop) (w:World) (p:NdH × Tr) (a:Addr):Prop :=
  C a.block /\ w.cell? a = some (.string (str p.1.name)) /\ w.cell? (a.add 2) = some (.string (str p.1.text)) /\
    (∃ u,w.cell? (a.add 1) = some u /\ AttrsC C w u p.1.attrs) /\ (∃ v,w.cell? (a.add 3) = some v /\ NodesC C w v p.2)
theorem nodesAt_list {C:Nat -> Prop} {w:World} (l:List (NdH × Tr)) (a:Addr) (h:∀ (j:Nat) p,l[j]? = some p -> NodeOne C w p (a.add (j * 4))):NodesAt C w (Tr.of l) a:=by
 induction l generalizing a with
 | nil=>trivial
 | cons p r ih =>
  obtain ⟨f,K⟩:=p;have h0:=h 0 _ rfl;rw [Nat.zero_mul,Addr.add_zero'] at h0;obtain ⟨h1,h2,h3,h4,h5⟩:=h0;refine ⟨h1,h2,h3,h4,h5,ih (a.add 4) (fun j p hj=>?_)⟩;have:=h (j + 1) p (by simpa using hj);rw [show (j + 1) * 4 = 4 + j * 4 by omega,<- Addr.add_add] at this;exact this
theorem attrsC_of_in {w:World} {v:Value} {F:List AtL} (h:AttrsIn w v F):AttrsC (fun b=>b < w.heap.size) w v F:=by
 refine ⟨h,fun a n c e hl=>?_⟩;rcases h with ⟨h1,h2⟩ | ⟨a',cap,h1,h2,h3,h4⟩
 ·exact absurd h2 hl
 ·rw [h1] at e;injection e with e _ _;injection e with e;subst e
  obtain ⟨f,hf⟩:∃ f,F[0]? = some f:=by
   cases F with
   | nil=>exact absurd rfl hl
   | cons f r=>exact ⟨f,rfl⟩
  have:=World.block_lt_of_cell? _ _ (h4 0 f hf).1
  rwa [addr_add_block] at this
instance:Inhabited NdH:=⟨⟨[],[],[]⟩⟩
instance:Inhabited Tr:=⟨.nil⟩
theorem nodesIn_of_cells {H:Type} {enc:TypeId × Value -> H} {W:World}:∀ (N n:Nat),n < N -> ∀ (v:Value) (y:DataW H × List MemPlace),DataW.trod enc Tryz.prog W 0 (fun _=>true) true n 25 [v] = some y -> ∃ T,NodesIn W v T
 | 0,n,hn=>absurd hn (Nat.not_lt_zero _)
 | N + 1,n,hn=>by
  intro v y h;rcases DataW.trod_slice Tryz.underlying25 h with ⟨hcs,_⟩ | ⟨a,len,cap,elems,rest,k,rfl,hcs,_,_,hl,hm,hlen,hel,_⟩
  ·obtain rfl:v = .slice none 0 0:=by simpa using hcs
   exact ⟨.nil,.inl ⟨rfl,rfl⟩⟩
  ·obtain rfl:v = .slice (some a) len cap:=by simpa using hcs
   have each:∀ i,i < len -> ∃ p:NdH × Tr,NodeOne (fun b=>b < W.heap.size) W p (a.add (i * 4)):=by
    intro i hi;have hh:=hel i hi;rw [List.getElem?_eq_getElem (by omega)] at hh;obtain ⟨cs',h1,h2⟩:=Option.bind_eq_some_iff.1 hh;rw [cellsNodeT] at h1;obtain ⟨_,hlen2,hcell⟩:=World.cells?_some h1;obtain ⟨xs,k',rfl,_,_,hxl,hf⟩:=DataW.trod_struct Tryz.underlying36 h2
    match xs,hxl,cs',hlen2 with
    | [y0,y1,y2,y3],_,[v0,v1,v2,v3],_ =>
     have g0:DataW.trod enc Tryz.prog W 0 (fun _=>true) true k' 9 [v0] = some y0:=by simpa [cellsStrT] using hf 0 _ rfl
     have g1:DataW.trod enc Tryz.prog W 0 (fun _=>true) true k' 34 [v1] = some y1:=by simpa [cellsAttrsT] using hf 1 _ rfl
     have g2:DataW.trod enc Tryz.prog W 0 (fun _=>true) true k' 9 [v2] = some y2:=by simpa [cellsStrT] using hf 2 _ rfl
     have g3:DataW.trod enc Tryz.prog W 0 (fun _=>true) true k' 25 [v3] = some y3:=by simpa [cellsNodesT] using hf 3 _ rfl
     obtain ⟨s0,q0,_⟩:=DataW.trod_string Tryz.underlying9 g0;obtain ⟨F,hF⟩:=attrsIn_of_cells g1;obtain ⟨s2,q2,_⟩:=DataW.trod_string Tryz.underlying9 g2;obtain ⟨K,hK⟩:=nodesIn_of_cells N k' (by omega) _ _ g3;obtain rfl:v0 = .string s0:=by simpa using q0
     obtain rfl:v2 = .string s2:=by simpa using q2
     have e0:=hcell 0 (by omega);have e1:=hcell 1 (by omega);have e2:=hcell 2 (by omega);have e3:=hcell 3 (by omega);have f0:W.cell? (a.add (i * 4)) = some (.string s0):=by rw [Addr.add_zero'] at e0;exact e0
     refine ⟨(⟨s0.data.toList,F,s2.data.toList⟩,K),World.block_lt_of_cell? _ _ f0,?_,?_,⟨v1,by simpa using e1,attrsC_of_in hF⟩,⟨v3,by simpa using e3,hK⟩⟩
     ·show _ = some (Value.string (str s0.data.toList))
      rw [str_of];exact f0
     ·show _ = some (Value.string (str s2.data.toList))
      rw [str_of];simpa using e2
   obtain ⟨Sx,hS⟩:=Deep.choose_lt each;refine ⟨Tr.of ((List.range len).map Sx),.inr ⟨a,cap,?_,?_,hm,nodesAt_list _ _ (fun j p hj=>?_)⟩⟩
   ·rw [Tr.len_of,List.length_map,List.length_range]
   ·rw [Tr.len_of,List.length_map,List.length_range];exact hl
   ·rw [List.getElem?_map] at hj;obtain ⟨i,hi,rfl⟩:=Option.map_eq_some_iff.1 hj;obtain ⟨hj',hi'⟩:=List.getElem?_eq_some_iff.1 hi;rw [List.getElem_range] at hi';subst hi';rw [List.length_range] at hj';exact hS j hj'
end Go.Proofs.YtmgpmdfmkdhfgaaGreatDoor
