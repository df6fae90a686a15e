import Derived.Test.YtmgpmdfmkdhfgaaGreatDoorBaseN
import Derived.Test.YtmgpmdfmkdhfgaaGreatDoorRef13Q
import Derived.BigQuiet
import Derived.Deep.QuietTactic
namespace Go.Proofs.YtmgpmdfmkdhfgaaGreatDoor
open Go.RowKit
set_option linter.unusedVariables false
set_option linter.unusedSimpArgs false
set_option maxRecDepth 100000
def attrsFew (p:NdH):Bool:=decide (p.attrs.length <= 1048576)
def SameP (N:Nat):Prop:=∀ (v1 v2:Value) (t1 t2:Tr) (w:World),t1.count < N -> N <= 1048576 -> NodesIn w v1 t1 -> NodesIn w v2 t2 -> t1.all attrsFew = true ->
    Calls Tryz.prog 14 #[v1,v2] w fun e w'=>e = .returned (.bool (decide (t1 = t2))) /\ ∃ m,w' = w.drewN m
set_option maxHeartbeats 8000000 in
theorem same14_step (n:Nat) (IH:SameP n):SameP (n + 1):=by
 intro v1 v2 t1 t2 w hn hN h1 h2 ha;have hn1:t1.len <= 1048576:=Nat.le_trans (Tr.len_count t1) (by omega);obtain ⟨A1,c1,rfl⟩:=NodesC.form h1;obtain ⟨A2,c2,rfl⟩:=NodesC.form h2;have H1:=hide h1;have H2:=hide h2;have HAL:=hide ha;have HIH:=hide IH;clear h1 h2 ha IH
 by_cases hl:t1.len = t2.len
 ·have t0:((t1.len:Int) == t2.len) = true:=by rw [beq_iff_eq];omega
  have t1x:((t1.len:Int) != t2.len) = false:=by rw [bne,t0];rfl
  go_enter Tryz.func14,Tryz.ntmps14;go_wp2_with fail;go_loopw [5] (fun i wr=>∃ k:Nat,k <= t1.len /\ i = .int .i64 k /\ Hid (∃ m,wr = w.drewN m) /\ Hid (t1.list.take k = t2.list.take k)) (fun i _=>t1.len - (intOf i).toNat)
  case atStart=>exact ⟨0,Nat.zero_le _,rfl,hide ⟨0,rfl⟩,hide rfl⟩
  case round =>
   obtain ⟨k,hk,rfl,HB,HG⟩:=hrel
   by_cases hlt:k < t1.len
   ·obtain ⟨⟨f,K⟩,hf⟩:∃ f,t1.list[k]? = some f:=⟨_,List.getElem?_eq_getElem (by rw [Tr.len_list];exact hlt)⟩
    obtain ⟨⟨g,L⟩,hg⟩:∃ g,t2.list[k]? = some g:=⟨_,List.getElem?_eq_getElem (by rw [Tr.len_list];omega)⟩
    have hI1:=H1.out.kept (below_of13 HB.out);have hI2:=H2.out.kept (below_of13 HB.out);obtain ⟨a,d,x,y,z,m,ha,-,p1,p2,hA,p3,p4,hm,hK⟩:=NodesC.at hI1 k f K hf;obtain ⟨b,d',x',y',z',m',hb,-,q1,q2,hB,q3,q4,hm',hL⟩:=NodesC.at hI2 k g L hg;subst ha hb;have hlt2:k < t2.len:=by omega
    have hKc:=Tr.at_count hf;obtain ⟨haf,haK⟩:=Tr.all_at HAL.out hf
    have HSA:Hid (∀ m,Calls Tryz.prog 29 #[.slice d f.attrs.length y,.slice d' g.attrs.length y'] (wr.drewN m) fun e w'=>e = .returned (.bool (decide (f.attrs = g.attrs))) /\ ∃ k,w' = (wr.drewN m).drewN k) :=
     hide fun m=>sameAttrs_any _ _ _ _ _ (hA.1.kept ⟨rfl,rfl,rfl,Nat.le_refl _,fun _ _=>rfl⟩) (hB.1.kept ⟨rfl,rfl,rfl,Nat.le_refl _,fun _ _=>rfl⟩) (by simpa [attrsFew] using haf)
    have HSK:Hid (∀ q,Calls Tryz.prog 14 #[.slice x m z,.slice x' m' z'] (wr.drewN q) fun e w'=>e = .returned (.bool (decide (K = L))) /\ ∃ k,w' = (wr.drewN q).drewN k) :=
     hide fun q=>HIH.out _ _ K L _ (by omega) (by omega) (NodesIn.kept hK ⟨rfl,rfl,rfl,Nat.le_refl _,fun _ _=>rfl⟩) (NodesIn.kept hL ⟨rfl,rfl,rfl,Nat.le_refl _,fun _ _=>rfl⟩) haK
    obtain ⟨X1,hX1⟩:∃ X,X = str f.name:=⟨_,rfl⟩
    obtain ⟨X2,hX2⟩:∃ X,X = str g.name:=⟨_,rfl⟩
    obtain ⟨Y1,hY1⟩:∃ X,X = str f.text:=⟨_,rfl⟩
    obtain ⟨Y2,hY2⟩:∃ X,X = str g.text:=⟨_,rfl⟩
    rw [<- hX1] at p1;rw [<- hX2] at q1;rw [<- hY1] at p3;rw [<- hY2] at q3;have HDF:Hid ((f,K) ≠ (g,L) -> decide (t1 = t2) = false):=hide fun hne=>decide_eq_false fun e=>hne (by rw [e,hg] at hf;exact (Option.some.inj hf).symm)
    have HNX:Hid ((f,K) = (g,L) -> t1.list.take (k + 1) = t2.list.take (k + 1)):=hide fun he=>by rw [List.take_add_one,List.take_add_one,HG.out,hf,hg,he]
    have hxe:f.name ≠ g.name -> (X1.toList == X2.toList) = false:=fun h=>by
     rw [hX1,hX2,bytes_list,bytes_list,str_toList,str_toList];exact beq_eq_false_iff_ne.2 h
    have hye:f.text ≠ g.text -> (Y1.toList == Y2.toList) = false:=fun h=>by
     rw [hY1,hY2,bytes_list,bytes_list,str_toList,str_toList];exact beq_eq_false_iff_ne.2 h
    have hxs:f.name = g.name -> X1 = X2:=fun h=>by rw [hX1,hX2,h]
    have hys:f.text = g.text -> Y1 = Y2:=fun h=>by rw [hY1,hY2,h]
    have hne1:f.name ≠ g.name -> (f,K) ≠ (g,L):=fun h e=>h (congrArg (fun z:NdH × Tr=>z.1.name) e)
    have hne2:f.text ≠ g.text -> (f,K) ≠ (g,L):=fun h e=>h (congrArg (fun z:NdH × Tr=>z.1.text) e)
    have hne3:f.attrs ≠ g.attrs -> (f,K) ≠ (g,L):=fun h e=>h (congrArg (fun z:NdH × Tr=>z.1.attrs) e)
    have hne4:K ≠ L -> (f,K) ≠ (g,L):=fun h e=>h (congrArg (fun z:NdH × Tr=>z.2) e)
    have heq:f.name = g.name -> f.text = g.text -> f.attrs = g.attrs -> K = L -> (f,K) = (g,L):=fun e1 e2 e3 e4=>by
     rw [e4]
     congr 1
     cases f;cases g
     simp only at e1 e2 e3;rw [e1,e2,e3]
    clear hf hg hX1 hX2 hY1 hY2 hA hB hK hL hm hm' haf haK hKc hI1 hI2
    by_cases e1:f.name = g.name
    ·have x1:=hxs e1;subst x1
     by_cases e2:f.text = g.text
     ·have x2:=hys e2;subst x2
      by_cases e3:f.attrs = g.attrs
      ·by_cases e4:K = L
       ·have HN:Hid (t1.list.take (k + 1) = t2.list.take (k + 1)):=hide (HNX.out (heq e1 e2 e3 e4));rw [decide_eq_true e3] at HSA;rw [decide_eq_true e4] at HSK;clear hxe hye hxs hys hne1 hne2 hne3 hne4 heq e1 e2 e3 e4;go_wp2_with fail;go_quiet (first | (go_at_call 29;exact Calls.quiet_of (HSA.out _)) | (go_at_call 14;exact Calls.quiet_of (HSK.out _)) | fail);go_wp2_with fail;go_roundw
        case rel=>exact ⟨k + 1,by omega,by go_num,hide (drew_on HB.out nq),HN⟩
        case measure=>simp [intOf];omega
       ·have HD:Hid (decide (t1 = t2) = false):=hide (HDF.out (hne4 e4));rw [decide_eq_true e3] at HSA;rw [decide_eq_false e4] at HSK;clear hxe hye hxs hys hne1 hne2 hne3 hne4 heq e1 e2 e3 e4;go_wp2_with fail;go_quiet (first | (go_at_call 29;exact Calls.quiet_of (HSA.out _)) | (go_at_call 14;exact Calls.quiet_of (HSK.out _)) | fail);go_wp2_with fail;go_ret;exact ⟨ret_bool HD.out.symm,drew_on HB.out nq⟩
      ·have HD:Hid (decide (t1 = t2) = false):=hide (HDF.out (hne3 e3));rw [decide_eq_false e3] at HSA;clear hxe hye hxs hys hne1 hne2 hne3 hne4 heq e1 e2 e3;go_wp2_with fail;go_quiet (first | (go_at_call 29;exact Calls.quiet_of (HSA.out _)) | fail);go_wp2_with fail;go_ret;exact ⟨ret_bool HD.out.symm,drew_on HB.out nq⟩
     ·have HD:Hid (decide (t1 = t2) = false):=hide (HDF.out (hne2 e2));have t3:=hye e2;clear hxe hye hxs hys hne1 hne2 hne3 hne4 heq e1 e2;go_wp2_with fail;go_quiet (fail);go_wp2_with fail;go_ret;exact ⟨ret_bool HD.out.symm,drew_on HB.out nq⟩
    ·have HD:Hid (decide (t1 = t2) = false):=hide (HDF.out (hne1 e1));have t2x:=hxe e1;clear hxe hye hxs hys hne1 hne2 hne3 hne4 heq e1;go_wp2_with fail;go_quiet (fail);go_wp2_with fail;go_ret;exact ⟨ret_bool HD.out.symm,drew_on HB.out nq⟩
   ·have HD:Hid (decide (t1 = t2) = true):=hide (by
     have:=HG.out;rw [List.take_of_length_le (by rw [Tr.len_list];omega),List.take_of_length_le (by rw [Tr.len_list];omega)] at this;exact decide_eq_true (Tr.list_inj this))
    go_wp2_with fail;go_ret;exact ⟨ret_bool HD.out.symm,HB.out⟩
 ·have t0:((t1.len:Int) == t2.len) = false:=by rw [beq_eq_false_iff_ne];omega
  have t1x:((t1.len:Int) != t2.len) = true:=by rw [bne,t0];rfl
  have HD:Hid (decide (t1 = t2) = false):=hide (decide_eq_false (fun e=>hl (by rw [e])));clear hl;go_enter Tryz.func14,Tryz.ntmps14;go_wp2_with fail;go_ret;exact ⟨ret_bool HD.out.symm,0,rfl⟩
theorem same14_all:∀ n,SameP n
 | 0=>fun v1 v2 t1 t2 w h=>absurd h (Nat.not_lt_zero _)
 | n + 1=>same14_step n (same14_all n)
theorem same14_any (v1 v2:Value) (t1 t2:Tr) (w:World) (hn:t1.count < 1048576) (h1:NodesIn w v1 t1) (h2:NodesIn w v2 t2) (ha:t1.all attrsFew = true) :
  Calls Tryz.prog 14 #[v1,v2] w fun e w'=>e = .returned (.bool (decide (t1 = t2))) /\ ∃ m,w' = w.drewN m :=
 same14_all (t1.count + 1) v1 v2 t1 t2 w (Nat.lt_succ_self _) hn h1 h2 ha
end Go.Proofs.YtmgpmdfmkdhfgaaGreatDoor
