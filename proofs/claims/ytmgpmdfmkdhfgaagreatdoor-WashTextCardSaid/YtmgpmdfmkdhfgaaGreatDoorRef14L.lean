import Derived.Test.YtmgpmdfmkdhfgaaGreatDoorTreeY
import Derived.Test.YtmgpmdfmkdhfgaaGreatDoorBaseR
import Derived.Test.YtmgpmdfmkdhfgaaGreatDoorRef14S
import Derived.Test.YtmgpmdfmkdhfgaaGreatDoorEntX
namespace Go.Proofs.YtmgpmdfmkdhfgaaGreatDoor
open Go.RowKit
set_option linter.unusedVariables false
set_option linter.unusedSimpArgs false
set_option maxRecDepth 100000
theorem node_at {w:World} {g o:Nat} {cs:Array Value} {T:TypeId} {fz:Nat × Nat} (hb:w.heap[g]? = some (Obj.cells cs T fz)) {h:NdH} {K R:Tr} {av kv:Value} (c0:cs[o]? = some (.string (str h.name))) (c1:cs[o + 1]? = some av) (c2:cs[o + 2]? = some (.string (str h.text))) (c3:cs[o + 3]? = some kv)
  (ha:AttrsC (fun b=>b < w.heap.size) w av h.attrs) (hk:NodesIn w kv K) (hr:NodesAt (fun b=>b < w.heap.size) w R ⟨g,o + 4,none⟩):NodesAt (fun b=>b < w.heap.size) w (.cons h K R) ⟨g,o,none⟩:=by
 refine ⟨lt_of_block hb,(Lib.cell_of_heap hb o).trans c0,(Lib.cell_of_heap hb (o + 2)).trans c2,⟨av,(Lib.cell_of_heap hb (o + 1)).trans c1,ha⟩,⟨kv,(Lib.cell_of_heap hb (o + 3)).trans c3,hk⟩,?_⟩;rw [Addr.add_lit];exact hr
theorem nodes_of {w:World} {g n:Nat} {t:Tr} (h:NodesAt (fun b=>b < w.heap.size) w t ⟨g,0,none⟩) (hn:t.len = n) (hm:n <= maxLen):NodesIn w (.slice (some ⟨g,0,none⟩) n n) t:=by
 subst hn;exact .inr ⟨⟨g,0,none⟩,_,rfl,Nat.le_refl _,hm,h⟩
theorem no_nodes (w:World):NodesIn w (.slice none 0 0) .nil:=.inl ⟨rfl,rfl⟩
theorem no_attrs {C:Nat -> Prop} (w:World):AttrsC C w (.slice none 0 0) []:=⟨.inl ⟨rfl,rfl⟩,fun a n c e=>(by cases e)⟩
theorem some_attrs {w:World} {g n:Nat} {T:TypeId} {fz:Nat × Nat} (l:List AtL) (h:w.heap[g]? = some (.cells (atVals l).toArray T fz)) (hn:l.length = n) (hl:n <= maxLen):AttrsC (fun b=>b < w.heap.size) w (.slice (some ⟨g,0,none⟩) n n) l:=by
 subst hn;refine ⟨attrs_lit l h hl,fun a n c e _=>?_⟩;injection e with e _ _;injection e with e;rw [<- e];exact lt_of_block h
end Go.Proofs.YtmgpmdfmkdhfgaaGreatDoor
