import Derived.Test.YtmgpmdfmkdhfgaaGreatDoorRefWhole
namespace Go.Proofs.YtmgpmdfmkdhfgaaGreatDoor
open Go.RowKit
set_option linter.unusedVariables false
set_option linter.unusedSimpArgs false
set_option maxHeartbeats 2000000 in
theorem refValid_any (s:ByteArray) (w:World) (hs:s.size <= 1048576) :
  Calls Tryz.prog 11 #[.string s] w fun e w'=>e = .returned (.string (str (validL s.data.toList))) /\ Below w.heap.size w w':=by
 have hb0:Buf w.heap.size (.slice none 0 0) [] w w:=Buf.nil (Below.refl _ _) (Nat.le_refl _);have HB0:=hide hb0;have hz3:(⟨#[239,191,189]⟩:ByteArray).size = 3:=rfl;clear hb0;go_enter Tryz.func11,Tryz.ntmps11;go_wp2_with fail;go_loopw [3,4] (fun v i wr=>∃ (k:Nat) (acc:List UInt8),k <= s.size /\ i = .int .i64 k /\ Buf w.heap.size v acc w wr /\ acc.length <= 3 * k /\ acc ++ validL (s.data.toList.drop k) = validL s.data.toList) (fun _ i _=>s.size - (intOf i).toNat)
 case atStart=>exact ⟨0,[],Nat.zero_le _,rfl,HB0.out,Nat.le_refl _,by simp⟩
 case round =>
  obtain ⟨k,acc,hk,rfl,hb,hacc,hd⟩:=hrel;have HB:=hide hb;clear hb
  by_cases hlt:k < s.size
  ·have hne:s.data.toList.drop k ≠ []:=by rw [drop_cons s k hlt];simp
   have hle:=wholeN_le (s.data.toList.drop k);rw [List.length_drop,toList_length] at hle;have hR:=valid_round hd hne;rw [List.drop_drop] at hR;obtain ⟨n,hn⟩:∃ n,n = wholeN (s.data.toList.drop k):=⟨_,rfl⟩
   rw [<- hn] at hle;obtain ⟨hl1,hl2⟩:=hle;have HN:=hide hn
   by_cases h0:n = 0
   ·rw [vStep_zero (by rw [<- hn,h0])] at hR;have HR:=hide hR;have t0:((n:Int) == 0) = true:=by rw [h0];rfl
    clear hn hd hne hR h0 hl1 hl2;go_wp2_with fail;refine (whole_any s k _ (by omega) hlt).mono ?_;rintro e w1 ⟨rfl,rfl⟩;rw [<- HN.out];go_wp2_with (refine wpList_buf_text rfl _ _ rfl w.heap.size u3 acc rfl w HB.out ⟨#[239,191,189]⟩ rfl (by omega) ?_;intro v2 w2 hb2;have HB2:=hide hb2;clear hb2);go_roundw
    case rel=>exact ⟨k + 1,acc ++ bad,by omega,by go_num,HB2.out,by simp [bad];omega,HR.out⟩
    case measure=>simp [intOf];omega
   ·rw [vStep_pos (n:=n) hn.symm h0] at hR;have HR:=hide hR;have t0:((n:Int) == 0) = false:=by rw [beq_eq_false_iff_ne];omega
    have hx:=extract_mid s k n;have hxz:=extract_size_le s k (k + n);have HX:=hide hx;clear hn hd hne hR hx;go_wp2_with fail;refine (whole_any s k _ (by omega) hlt).mono ?_;rintro e w1 ⟨rfl,rfl⟩;rw [<- HN.out];go_wp2_with (refine wpList_buf_text rfl _ _ rfl w.heap.size u3 acc rfl w HB.out (s.extract k (k + n)) rfl (by omega) ?_;intro v2 w2 hb2;rw [HX.out] at hb2;have HB2:=hide hb2;clear hb2);go_roundw
    case rel=>exact ⟨k + n,acc ++ _,by omega,by go_num,HB2.out,by rw [List.length_append,List.length_take];omega,HR.out⟩
    case measure=>simp [intOf];omega
  ·have hcv:=HB.out.convert;go_wp2_with fail;go_ret;refine ⟨?_,HB.out.below⟩;rw [drop_nil s k (by omega),validL_nil,List.append_nil] at hd;exact ret_str (by rw [hd])
end Go.Proofs.YtmgpmdfmkdhfgaaGreatDoor
