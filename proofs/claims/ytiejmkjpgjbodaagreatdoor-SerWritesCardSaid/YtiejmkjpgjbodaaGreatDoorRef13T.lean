import Derived.Test.YtiejmkjpgjbodaaGreatDoorRef13H
import Derived.Test.YtiejmkjpgjbodaaGreatDoorBaseM
namespace Go.Proofs.YtiejmkjpgjbodaaGreatDoor
open Go.RowKit
set_option linter.unusedVariables false
set_option linter.unusedSimpArgs false
set_option maxRecDepth 100000
theorem rawEnd_at {n l r:List UInt8} {k:Nat} (hd:l.drop k = r):rawEndB n r = (([60,47]:List UInt8).isPrefixOf r && (decide (k + 2 + n.length < l.length) && ((lowL ((l.drop (k + 2)).take n.length) == n) && nameEndB (l.getD (k + 2 + n.length) 0)))):=by
 have hlen:=congrArg List.length hd;rw [List.length_drop] at hlen;unfold rawEndB;split
 ·rename_i q;have h2:l.drop (k + 2) = q:=by rw [<- List.drop_drop,hd];rfl
  have hq:q.length = l.length - (k + 2):=by rw [<- h2,List.length_drop]
  simp only [List.length_cons] at hlen;have e1:decide (n.length < q.length) = decide (k + 2 + n.length < l.length):=decide_eq_decide.2 (by omega)
  have e2:q.getD n.length 0 = l.getD (k + 2 + n.length) 0:=by
   rw [<- h2,List.getD_eq_getElem?_getD,List.getD_eq_getElem?_getD,List.getElem?_drop]
  rw [e1,e2,h2];simp [List.isPrefixOf]
 ·rename_i hne;cases r with
  | nil=>simp [List.isPrefixOf]
  | cons c r =>
   cases r with
   | nil=>simp [List.isPrefixOf]
   | cons d r =>
    by_cases h1:c = 60
    ·by_cases h2:d = 47
     ·subst h1 h2;exact absurd rfl (hne r)
     ·have:((47:UInt8) == d) = false:=beq_eq_false_iff_ne.2 (fun e=>h2 e.symm);simp [List.isPrefixOf,h1,this]
    ·have:((60:UInt8) == c) = false:=beq_eq_false_iff_ne.2 (fun e=>h1 e.symm);simp [List.isPrefixOf,this]
theorem rawN_go {n l r:List UInt8} {k:Nat} {c:UInt8} (hd:l.drop k = c :: r):rawN n (l.drop k) = if rawEndB n (l.drop k) = true then 0 else rawN n (l.drop (k + 1)) + 1:=by
 rw [drop_succ13 hd,hd]
 conv=>lhs;unfold rawN
end Go.Proofs.YtiejmkjpgjbodaaGreatDoor
