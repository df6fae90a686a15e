import Derived.Test.YtiejmkjpgjbodaaGreatDoorRefK
import Derived.Test.YtiejmkjpgjbodaaGreatDoorRefSign
namespace Go.Proofs.YtiejmkjpgjbodaaGreatDoor
open Go.RowKit
set_option linter.unusedVariables false
set_option linter.unusedSimpArgs false
set_option maxRecDepth 100000 in
set_option maxHeartbeats 4000000 in
theorem refDec2 (label s:ByteArray) (w:World) (hl:label.size <= 70368744177664) (hs:s.size <= 1048576) (hk:kindL label.data.toList = 2) :
  Calls Tryz.prog 180 #[.string label,.string s] w fun e w'=>e = .returned (.tuple #[.string (str (winL s.data.toList)),.bool true]) /\ Below w.heap.size w w':=by
 have HK:=hide (fun (w:World)=>refKnown_any label w hl);rw [hk] at HK;have KVV:Hid (knownV 2 = .tuple #[.string ⟨#[119,105,110,100,111,119,115,45,49,50,53,50]⟩,.bool true]):=hide rfl;clear hk;go_enter Tryz.func180,Tryz.ntmps180;go_wp2_with fail;refine (HK.out _).mono ?_;rintro e w1 ⟨rfl,hb1⟩;rw [KVV.out];have hb0:Buf w1.heap.size (.slice none 0 0) [] w1 w1:=Buf.nil (Below.refl _ _) (Nat.le_refl _);have HB0:=hide hb0;clear hb0;go_wp2_with fail;go_loopw [8,9] (fun v i wr=>∃ (k:Nat) (acc:List UInt8),k <= s.size /\ i = .int .i64 k /\ Buf w1.heap.size v acc w1 wr /\ acc.length <= 3 * k /\ acc ++ winL (s.data.toList.drop k) = winL s.data.toList) (fun _ i _=>s.size - (intOf i).toNat)
 case atStart=>exact ⟨0,[],Nat.zero_le _,rfl,HB0.out,Nat.le_refl _,by simp⟩
 case round =>
  obtain ⟨k,acc,hk,rfl,hb,hacc,hd⟩:=hrel;have HB:=hide hb;clear hb
  by_cases hlt:k < s.size
  ·rw [drop_cons s k hlt,winL_cons,<- List.append_assoc] at hd;have HR:=hide hd;have hcase:=winR_case s[k];have hl3:=winR_length s[k];have hbl:=byte_lt s[k];generalize hc:s[k] = c at hd hcase hl3 hbl;rw [hc] at HR;have wc:wrap64 (c.toNat:Int) = c.toNat:=IntWalk.wrap64_in _ (by omega);clear hd;rcases hcase with ⟨c1,e⟩ | ⟨c1,c2,e⟩ | ⟨c1,e⟩
   ·rw [e] at HR hl3;have t1:decide ((128:Int) <= c.toNat) = false:=decide_eq_false (by omega);clear e;go_wp2_with fail;refine (sign_any c.toNat _ (by omega)).mono ?_;rintro e w3 ⟨rfl,hb3⟩;have HB3:=hide (HB.out.kept hb3);go_wp2_with (refine wpList_buf_text rfl _ _ rfl w1.heap.size u8 acc rfl w1 HB3.out (str (runeL c.toNat)) rfl (by rw [str_size];omega) ?_;intro v4 w4 hb4;rw [str_toList] at hb4;have HB4:=hide hb4;clear hb4);go_roundw
    case rel=>exact ⟨k + 1,acc ++ _,by omega,by go_num,HB4.out,by rw [List.length_append];omega,HR.out⟩
    case measure=>simp [intOf];omega
   ·obtain ⟨m,hm,hm2⟩:=win_at (c.toNat - 128) (by omega);rw [e,hm] at HR hl3;have HM:=hide hm;have HIGH:=hide (fun (w:World)=>high_any c w c1 c2);have t1:decide ((128:Int) <= c.toNat) = true:=decide_eq_true (by omega);have t2:decide ((c.toNat:Int) < 160) = true:=decide_eq_true (by omega);clear e hm;go_wp2_with fail;refine (HIGH.out _).mono ?_;rintro e w2 ⟨rfl,hb2⟩;rw [HM.out];have HB2:=hide (HB.out.kept hb2);go_wp2_with fail;refine (sign_any m _ (by omega)).mono ?_;rintro e w3 ⟨rfl,hb3⟩;have HB3:=hide (HB2.out.kept hb3);go_wp2_with (refine wpList_buf_text rfl _ _ rfl w1.heap.size u8 acc rfl w1 HB3.out (str (runeL m)) rfl (by rw [str_size];omega) ?_;intro v4 w4 hb4;rw [str_toList] at hb4;have HB4:=hide hb4;clear hb4);go_roundw
    case rel=>exact ⟨k + 1,acc ++ _,by omega,by go_num,HB4.out,by rw [List.length_append];omega,HR.out⟩
    case measure=>simp [intOf];omega
   ·rw [e] at HR hl3;have t1:decide ((128:Int) <= c.toNat) = true:=decide_eq_true (by omega);have t2:decide ((c.toNat:Int) < 160) = false:=decide_eq_false (by omega);clear e;go_wp2_with fail;refine (sign_any c.toNat _ (by omega)).mono ?_;rintro e w3 ⟨rfl,hb3⟩;have HB3:=hide (HB.out.kept hb3);go_wp2_with (refine wpList_buf_text rfl _ _ rfl w1.heap.size u8 acc rfl w1 HB3.out (str (runeL c.toNat)) rfl (by rw [str_size];omega) ?_;intro v4 w4 hb4;rw [str_toList] at hb4;have HB4:=hide hb4;clear hb4);go_roundw
    case rel=>exact ⟨k + 1,acc ++ _,by omega,by go_num,HB4.out,by rw [List.length_append];omega,HR.out⟩
    case measure=>simp [intOf];omega
  ·have hcv:=HB.out.convert;have hbb:=hb1.trans (HB.out.below.mono hb1.size);have HBB:=hide hbb;clear hbb;rw [drop_nil s k (by omega)] at hd;rw [show winL [] = [] from rfl,List.append_nil] at hd;have HD:=hide hd;clear hd;go_wp2_with fail;go_ret2;exact ⟨by rw [<- HD.out];rfl,HBB.out⟩
end Go.Proofs.YtiejmkjpgjbodaaGreatDoor
