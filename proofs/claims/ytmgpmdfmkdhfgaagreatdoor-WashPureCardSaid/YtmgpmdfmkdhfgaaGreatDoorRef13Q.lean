import Derived.Test.YtmgpmdfmkdhfgaaGreatDoorBaseT
import Derived.BigQuiet
import Derived.Deep.QuietTactic
namespace Go.Proofs.YtmgpmdfmkdhfgaaGreatDoor
open Go.RowKit
set_option linter.unusedVariables false
set_option linter.unusedSimpArgs false
set_option maxRecDepth 100000
theorem below_of13 {w w':World} (h:∃ m,w' = w.drewN m):Below w.heap.size w w':=by
 obtain ⟨m,rfl⟩:=h;exact ⟨rfl,rfl,rfl,Nat.le_refl _,fun _ _=>rfl⟩
theorem drew_on {w w':World} (h:∃ m,w' = w.drewN m) (n:Nat):∃ m,w'.drewN n = w.drewN m:=by
 obtain ⟨m,rfl⟩:=h;exact ⟨m + n,by rw [World.drewN_drewN]⟩
set_option maxHeartbeats 2000000 in
theorem sameAttrs_any (v1 v2:Value) (l1 l2:List AtL) (w:World) (h1:AttrsIn w v1 l1) (h2:AttrsIn w v2 l2) (hn:l1.length <= 1048576) :
  Calls Tryz.prog 29 #[v1,v2] w fun e w'=>e = .returned (.bool (decide (l1 = l2))) /\ ∃ m,w' = w.drewN m:=by
 obtain ⟨A1,c1,rfl⟩:=h1.form;obtain ⟨A2,c2,rfl⟩:=h2.form;have H1:=hide h1;have H2:=hide h2;clear h1 h2
 by_cases hl:l1.length = l2.length
 ·have t0:((l1.length:Int) == l2.length) = true:=by rw [beq_iff_eq];omega
  have t1:((l1.length:Int) != l2.length) = false:=by rw [bne,t0];rfl
  go_enter Tryz.func29,Tryz.ntmps29;go_wp2_with fail;go_loopw [5] (fun i wr=>∃ k:Nat,k <= l1.length /\ i = .int .i64 k /\ Hid (∃ m,wr = w.drewN m) /\ Hid (l1.take k = l2.take k)) (fun i _=>l1.length - (intOf i).toNat)
  case atStart=>exact ⟨0,Nat.zero_le _,rfl,hide ⟨0,rfl⟩,hide rfl⟩
  case round =>
   obtain ⟨k,hk,rfl,HB,HG⟩:=hrel
   by_cases hlt:k < l1.length
   ·obtain ⟨f,hf⟩:∃ f,l1[k]? = some f:=⟨_,List.getElem?_eq_getElem hlt⟩
    obtain ⟨g,hg⟩:∃ g,l2[k]? = some g:=⟨_,List.getElem?_eq_getElem (by omega)⟩
    obtain ⟨a,ha,hc1,hc2⟩:=(H1.out.kept (below_of13 HB.out)).at k f hf;obtain ⟨b,hb,hd1,hd2⟩:=(H2.out.kept (below_of13 HB.out)).at k g hg;subst ha hb;have hlt2:k < l2.length:=by omega
    obtain ⟨X1,hX1⟩:∃ X,X = str f.1:=⟨_,rfl⟩
    obtain ⟨X2,hX2⟩:∃ X,X = str f.2:=⟨_,rfl⟩
    obtain ⟨Y1,hY1⟩:∃ X,X = str g.1:=⟨_,rfl⟩
    obtain ⟨Y2,hY2⟩:∃ X,X = str g.2:=⟨_,rfl⟩
    rw [<- hX1] at hc1;rw [<- hX2] at hc2;rw [<- hY1] at hd1;rw [<- hY2] at hd2
    by_cases he:f = g
    ·have e1:X1 = Y1:=by rw [hX1,hY1,he]
     have e2:X2 = Y2:=by rw [hX2,hY2,he]
     subst e1 e2;have HN:Hid (l1.take (k + 1) = l2.take (k + 1)):=hide (by rw [List.take_add_one,List.take_add_one,HG.out,hf,hg,he]);clear he hf hg hX1 hX2 hY1 hY2;go_wp2_with fail;go_quiet (fail);go_wp2_with fail;go_roundw
     case rel=>exact ⟨k + 1,by omega,by go_num,hide (drew_on HB.out nq),HN⟩
     case measure=>simp [intOf];omega
    ·have HD:Hid (decide (l1 = l2) = false):=hide (decide_eq_false (fun e=>he (by rw [e,hg] at hf;exact (Option.some.inj hf).symm)))
     by_cases he1:f.1 = g.1
     ·have he2:f.2 ≠ g.2:=fun e=>he (Prod.ext he1 e)
      have e1:X1 = Y1:=by rw [hX1,hY1,he1]
      have t2:(X2.toList == Y2.toList) = false:=by
       rw [hX2,hY2,bytes_list,bytes_list,str_toList,str_toList];exact beq_eq_false_iff_ne.2 he2
      subst e1;clear he he1 he2 hf hg hX1 hX2 hY1 hY2;go_wp2_with fail;go_quiet (fail);go_wp2_with fail;go_ret;exact ⟨ret_bool HD.out.symm,drew_on HB.out nq⟩
     ·have t2:(X1.toList == Y1.toList) = false:=by
       rw [hX1,hY1,bytes_list,bytes_list,str_toList,str_toList];exact beq_eq_false_iff_ne.2 he1
      clear he he1 hf hg hX1 hX2 hY1 hY2;go_wp2_with fail;go_quiet (fail);go_wp2_with fail;go_ret;exact ⟨ret_bool HD.out.symm,drew_on HB.out nq⟩
   ·have HD:Hid (decide (l1 = l2) = true):=hide (by
     have:=HG.out;rw [List.take_of_length_le (by omega),List.take_of_length_le (by omega)] at this;exact decide_eq_true this)
    go_wp2_with fail;go_ret;exact ⟨ret_bool HD.out.symm,HB.out⟩
 ·have t0:((l1.length:Int) == l2.length) = false:=by rw [beq_eq_false_iff_ne];omega
  have t1:((l1.length:Int) != l2.length) = true:=by rw [bne,t0];rfl
  have HD:Hid (decide (l1 = l2) = false):=hide (decide_eq_false (fun e=>hl (by rw [e])));clear hl;go_enter Tryz.func29,Tryz.ntmps29;go_wp2_with fail;go_ret;exact ⟨ret_bool HD.out.symm,0,rfl⟩
end Go.Proofs.YtmgpmdfmkdhfgaaGreatDoor
