import Derived.Test.YtmgpmdfmkdhfgaaGreatDoorBaseS
namespace Go.Proofs.YtmgpmdfmkdhfgaaGreatDoor
open Go.RowKit
set_option linter.unusedVariables false
set_option linter.unusedSimpArgs false
set_option maxRecDepth 100000
def KT (w w':World):Prop:=∀ (g:Nat) (cur:Array Value) (T:TypeId) (fz:Nat × Nat),w.heap[g]? = some (Obj.cells cur T fz) -> T ≠ 5 -> T ≠ 99 -> w'.heap[g]? = w.heap[g]?
theorem KT.refl (w:World):KT w w:=fun _ _ _ _ _ _ _=>rfl
theorem KT.trans {a b c:World} (h:KT a b) (k:KT b c):KT a c:=fun g cur T fz hg h1 h2=>by
 have e:=h g cur T fz hg h1 h2;exact (k g cur T fz (e.trans hg) h1 h2).trans e
theorem KT.below {w w':World} (h:Below w.heap.size w w'):KT w w':=fun g cur T fz hg _ _=>h.block g (Array.getElem?_eq_some_iff.1 hg).1
theorem KT.alloc (w:World) (o:Obj):KT w (w.alloc o):=fun g cur T fz hg _ _=>Below.heap_alloc w o g (Array.getElem?_eq_some_iff.1 hg).1
theorem KT.set {w:World} {b:Nat} {cs:Array Value} {fr:Nat × Nat} (h:w.heap[b]? = some (.cells cs 99 fr)) (i:Nat) (v:Value):KT w (w.setCell ⟨b,i,none⟩ v):=fun g cur T fz hg _ h2=>by
 have hne:g ≠ b:=by
  rintro rfl;rw [h] at hg;injection hg with hg;injection hg with _ e;exact h2 e.symm
 exact Below.heap_setCell w _ v g hne
theorem KT.own {w w':World} {B n:Nat} {v:Value} {xs:List Value} (h:w.ownsRow B 5 1 v n xs) (hg:w.grownBy w' v.ownBlock):KT w w':=fun m cur T fz hm h1 _=>by
 refine hg.block m (Array.getElem?_eq_some_iff.1 hm).1 (fun he=>?_);rcases h.2 with ⟨rfl,_⟩ | ⟨g,cap,cur2,rfl,_,hh,_⟩
 ·simp [Value.ownBlock] at he
 ·have e1:g = m:=by simpa [Value.ownBlock] using he.symm
  subst e1;rw [hh] at hm;injection hm with hm;injection hm with _ e;exact h1 e.symm
end Go.Proofs.YtmgpmdfmkdhfgaaGreatDoor
