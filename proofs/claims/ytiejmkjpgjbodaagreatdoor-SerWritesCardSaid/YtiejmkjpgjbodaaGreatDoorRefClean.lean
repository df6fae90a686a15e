import Derived.Test.YtiejmkjpgjbodaaGreatDoorBaseO
import Derived.Test.YtiejmkjpgjbodaaGreatDoorSpace
namespace Go.Proofs.YtiejmkjpgjbodaaGreatDoor
open Go.RowKit
set_option linter.unusedVariables false
set_option linter.unusedSimpArgs false
set_option maxHeartbeats 2000000 in
theorem clean_any (s:ByteArray) (w:World) (hs:s.size <= 70368744177664) :
  Calls Tryz.prog 236 #[.string s] w fun e w'=>e = .returned (.string (str (cleanL s.data.toList))) /\ Below w.heap.size w w':=by
 have HG:Hid (cleanL s.data.toList = lowL (rightW (leftW s.data.toList))):=hide (by unfold cleanL;rw [trim_eq,lr]);go_enter Tryz.func236,Tryz.ntmps236;go_wp2_with fail;go_loop [0] (fun x=>∃ t:ByteArray,x = .string t /\ t.size <= s.size /\ leftW t.data.toList = leftW s.data.toList) (fun x=>szOfC x)
 case atStart=>exact ⟨s,rfl,Nat.le_refl _,rfl⟩
 case round =>
  obtain ⟨t,rfl,ht,hd⟩:=hrel
  by_cases hgo:∃ h0:0 < t.size,spaceB t[0] = true
  ·obtain ⟨h0,hsp⟩:=hgo;have e:=drop_cons t 0 h0;rw [List.drop_zero] at e
   have hd2:leftW (t.extract 1 t.size).data.toList = leftW s.data.toList:=by
    rw [extract_end,<- hd]
    conv=>rhs;rw [e,leftW_cons,hsp]
    simp
   have HD:=hide hd2;have HS:=hide hsp;clear hd hd2 hsp e;go_wp2_with fail;refine (space_any t[0] _).mono ?_;rintro e w1 ⟨rfl,rfl⟩;rw [HS.out];go_wp2_with fail;go_round
   case rel=>exact ⟨t.extract 1 t.size,rfl,by rw [ByteArray.size_extract];omega,HD.out⟩
   case measure=>simp [szOfC];omega
  ·have hcase:(∃ h0:0 < t.size,spaceB t[0] = false) \/ t.size = 0:=by
    by_cases h0:0 < t.size
    ·refine .inl ⟨h0,?_⟩;cases h:spaceB t[0] with
     | true=>exact absurd ⟨h0,h⟩ hgo
     | false=>rfl
    ·exact .inr (by omega)
   have hlt:leftW t.data.toList = t.data.toList:=by
    rcases hcase with ⟨h0,h⟩ | h
    ·have e:=drop_cons t 0 h0;rw [List.drop_zero] at e;rw [e,leftW_cons,h];simp
    ·have e:t.data.toList = []:=List.eq_nil_of_length_eq_zero (by rw [toList_length];exact h);rw [e];rfl
   rw [hlt] at hd;have HD:=hide hd;clear hd hlt hgo;rcases hcase with ⟨h0,h⟩ | h
   ·have HS:=hide h;clear h;go_wp2_with fail;refine (space_any t[0] _).mono ?_;rintro e w1 ⟨rfl,rfl⟩;rw [HS.out];go_wp2_with fail;go_loop [0] (fun x=>∃ u:ByteArray,x = .string u /\ u.size <= s.size /\ rightW u.data.toList = rightW (leftW s.data.toList)) (fun x=>szOfC x)
    case atStart=>exact ⟨t,rfl,ht,by rw [HD.out]⟩
    case round =>
     obtain ⟨u,rfl,hu,hr⟩:=hrel
     by_cases hgo:∃ (n:Nat) (hn:u.size = n + 1),spaceB (u[n]'(by omega)) = true
     ·obtain ⟨n,hn,hsp⟩:=hgo;have hn':n < u.size:=by omega
      have e:=snoc_of u n hn
      have hr2:rightW (u.extract 0 n).data.toList = rightW (leftW s.data.toList):=by
       rw [<- hr,e,rightW_snoc,hsp];simp
      have HR:=hide hr2;have HS:=hide hsp;have hz:(u.size:Int) - 1 = n:=by omega
      clear hr hr2 hsp e;go_wp2_with fail;refine (space_any u[n] _).mono ?_;rintro e w1 ⟨rfl,rfl⟩;rw [HS.out];go_wp2_with fail;go_round
      case rel=>exact ⟨u.extract 0 n,rfl,by rw [ByteArray.size_extract];omega,HR.out⟩
      case measure=>simp [szOfC];omega
     ·have hcase2:(∃ (n:Nat) (hn:u.size = n + 1),spaceB (u[n]'(by omega)) = false) \/ u.size = 0:=by
       by_cases h0:0 < u.size
       ·refine .inl ⟨u.size - 1,by omega,?_⟩;cases h:spaceB (u[u.size - 1]'(by omega)) with
        | true=>exact absurd ⟨u.size - 1,by omega,h⟩ hgo
        | false=>rfl
       ·exact .inr (by omega)
      have hrt:rightW u.data.toList = u.data.toList:=by
       rcases hcase2 with ⟨n,hn,h⟩ | h
       ·rw [snoc_of u n hn,rightW_snoc,h];simp
       ·have e:u.data.toList = []:=List.eq_nil_of_length_eq_zero (by rw [toList_length];exact h);rw [e];rfl
      rw [hrt] at hr;have HR:=hide hr;clear hr hrt hgo;rcases hcase2 with ⟨n,hn,h⟩ | h
      ·have HS:=hide h;clear h;have hn':n < u.size:=by omega
       have hz:(u.size:Int) - 1 = n:=by omega
       go_wp2_with fail;refine (space_any u[n] _).mono ?_;rintro e w1 ⟨rfl,rfl⟩;rw [HS.out];go_wp2_with fail;refine (small_any _ _ (by omega)).mono ?_;rintro e w2 ⟨rfl,hb⟩;go_wp2_with fail;go_ret;exact ⟨ret_str (by rw [HR.out,HG.out]),hb⟩
      ·go_wp2_with fail;refine (small_any _ _ (by omega)).mono ?_;rintro e w2 ⟨rfl,hb⟩;go_wp2_with fail;go_ret;exact ⟨ret_str (by rw [HR.out,HG.out]),hb⟩
   ·go_wp2_with fail;go_loop [0] (fun x=>∃ u:ByteArray,x = .string u /\ u.size <= s.size /\ rightW u.data.toList = rightW (leftW s.data.toList)) (fun x=>szOfC x)
    case atStart=>exact ⟨t,rfl,ht,by rw [HD.out]⟩
    case round =>
     obtain ⟨u,rfl,hu,hr⟩:=hrel
     by_cases hgo:∃ (n:Nat) (hn:u.size = n + 1),spaceB (u[n]'(by omega)) = true
     ·obtain ⟨n,hn,hsp⟩:=hgo;have hn':n < u.size:=by omega
      have e:=snoc_of u n hn
      have hr2:rightW (u.extract 0 n).data.toList = rightW (leftW s.data.toList):=by
       rw [<- hr,e,rightW_snoc,hsp];simp
      have HR:=hide hr2;have HS:=hide hsp;have hz:(u.size:Int) - 1 = n:=by omega
      clear hr hr2 hsp e;go_wp2_with fail;refine (space_any u[n] _).mono ?_;rintro e w1 ⟨rfl,rfl⟩;rw [HS.out];go_wp2_with fail;go_round
      case rel=>exact ⟨u.extract 0 n,rfl,by rw [ByteArray.size_extract];omega,HR.out⟩
      case measure=>simp [szOfC];omega
     ·have hcase2:(∃ (n:Nat) (hn:u.size = n + 1),spaceB (u[n]'(by omega)) = false) \/ u.size = 0:=by
       by_cases h0:0 < u.size
       ·refine .inl ⟨u.size - 1,by omega,?_⟩;cases h:spaceB (u[u.size - 1]'(by omega)) with
        | true=>exact absurd ⟨u.size - 1,by omega,h⟩ hgo
        | false=>rfl
       ·exact .inr (by omega)
      have hrt:rightW u.data.toList = u.data.toList:=by
       rcases hcase2 with ⟨n,hn,h⟩ | h
       ·rw [snoc_of u n hn,rightW_snoc,h];simp
       ·have e:u.data.toList = []:=List.eq_nil_of_length_eq_zero (by rw [toList_length];exact h);rw [e];rfl
      rw [hrt] at hr;have HR:=hide hr;clear hr hrt hgo;rcases hcase2 with ⟨n,hn,h⟩ | h
      ·have HS:=hide h;clear h;have hn':n < u.size:=by omega
       have hz:(u.size:Int) - 1 = n:=by omega
       go_wp2_with fail;refine (space_any u[n] _).mono ?_;rintro e w1 ⟨rfl,rfl⟩;rw [HS.out];go_wp2_with fail;refine (small_any _ _ (by omega)).mono ?_;rintro e w2 ⟨rfl,hb⟩;go_wp2_with fail;go_ret;exact ⟨ret_str (by rw [HR.out,HG.out]),hb⟩
      ·go_wp2_with fail;refine (small_any _ _ (by omega)).mono ?_;rintro e w2 ⟨rfl,hb⟩;go_wp2_with fail;go_ret;exact ⟨ret_str (by rw [HR.out,HG.out]),hb⟩
end Go.Proofs.YtiejmkjpgjbodaaGreatDoor
