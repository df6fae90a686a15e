import Derived.Test.YtmgpmdfmkdhfgaaGreatDoorBaseS
namespace Go.Proofs.YtmgpmdfmkdhfgaaGreatDoor
open Go.RowKit
set_option linter.unusedVariables false
set_option linter.unusedSimpArgs false
set_option maxRecDepth 100000
def KB (w w':World):Prop:=∀ (m:Nat) cur e fr,w.heap[m]? = some (Obj.cells cur e fr) -> e ≠ 99 -> e ≠ 5 -> w'.heap[m]? = some (Obj.cells cur e fr)
theorem KB.refl (w:World):KB w w:=fun _ _ _ _ h _ _=>h
theorem KB.trans {a b c:World} (h:KB a b) (k:KB b c):KB a c:=fun m cur e fr hm h1 h2=>k m cur e fr (h m cur e fr hm h1 h2) h1 h2
theorem KB.alloc (w:World) (o:Obj):KB w (w.alloc o):=fun m cur e fr hm _ _=>(Below.heap_alloc w o m (Array.getElem?_eq_some_iff.1 hm).1).trans hm
theorem KB.below {w w':World} (h:Below w.heap.size w w'):KB w w':=fun m cur e fr hm _ _=>(h.block m (Array.getElem?_eq_some_iff.1 hm).1).trans hm
theorem KB.set {w:World} {b:Nat} {cs:Array Value} {fr:Nat × Nat} (h:w.heap[b]? = some (.cells cs 99 fr)) (i:Nat) (v:Value):KB w (w.setCell ⟨b,i,none⟩ v):=fun m cur e fr' hm h1 h2=>by
 have hne:m ≠ b:=by
  rintro rfl;rw [h] at hm;injection hm with hm;injection hm with _ hm;exact h1 hm.symm
 exact (Below.heap_setCell w _ v m hne).trans hm
theorem KB.own {w w':World} {B n:Nat} {v:Value} {xs:List Value} (h:w.ownsRow B 5 1 v n xs) (hg:w.grownBy w' v.ownBlock):KB w w':=fun m cur e fr hm h1 h2=>by
 refine (hg.block m (Array.getElem?_eq_some_iff.1 hm).1 (fun he=>?_)).trans hm;rcases h.2 with ⟨rfl,_⟩ | ⟨g,cap,cur',rfl,_,hh,_⟩
 ·simp [Value.ownBlock] at he
 ·have e1:g = m:=by simpa [Value.ownBlock] using he.symm
  subst e1;rw [hh] at hm;injection hm with hm;injection hm with _ hm;exact h2 hm.symm
end Go.Proofs.YtmgpmdfmkdhfgaaGreatDoor
