import Derived.Test.YtmgpmdfmkdhfgaaGreatDoorHtokW
namespace Go.Proofs.YtmgpmdfmkdhfgaaGreatDoor
open Go.RowKit
set_option linter.unusedVariables false
set_option linter.unusedSimpArgs false
set_option maxRecDepth 100000
theorem isMark_len {l:List UInt8} (h:l.length < 2):isMarkB l = false:=by
 match l,h with
 | [],_=>rfl
 | [a],_=>unfold isMarkB;split <;> first | rfl | (rename_i e;simp at e)
theorem isMark_head {a:UInt8} {r:List UInt8} (h:a ≠ 60):isMarkB (a :: r) = false:=by
 unfold isMarkB;split
 ·rename_i e;exact absurd (List.cons.inj e).1 h
 ·rfl
theorem isMark_mk (c:UInt8) (r:List UInt8):isMarkB (60 :: c :: r) = if c = 33 \/ c = 63 then true else if c = 47 then !r.isEmpty else letterB c:=by unfold isMarkB;rfl
theorem hasPrefix_60 (a:UInt8) (r:List UInt8):Lib.hasPrefix (a :: r) [60] = decide (a = 60):=by
 unfold Lib.hasPrefix;show ((60 == a) && true) = _
 rw [Bool.and_true]
 by_cases h:a = 60
 ·subst h;rfl
 ·rw [decide_eq_false h];exact beq_false_of_ne (fun e=>h e.symm)
set_option maxHeartbeats 2000000 in
theorem isMark_any (s:ByteArray) (w:World) (hs:s.size <= 16777216) :
  Calls Tryz.prog 66 #[.string s] w fun e w'=>e = .returned (.bool (isMarkB s.data.toList)) /\ w = w':=by
 have hlen:=toList_length s
 by_cases h2:s.size < 2
 ·have HR:=hide (isMark_len (l:=s.data.toList) (by rw [hlen];exact h2));clear hlen;go_enter Tryz.func66,Tryz.ntmps66;go_wp2_with fail
  all_goals first | (exact absurd h2 ‹_›) | skip
  go_ret;exact ⟨ret_bool HR.out.symm,rfl⟩
 ·have h0:0 < s.size:=by omega
  have h1:1 < s.size:=by omega
  have e0:=drop_cons s 0 h0;rw [List.drop_zero] at e0;have e1:=drop_cons s 1 h1;have hl:s.data.toList = s[0] :: s[1] :: s.data.toList.drop 2:=by rw [<- e1];exact e0
  have n2:¬ s.size < 2:=h2
  by_cases ha:s[0] = 60
  ·have HP:Hid (Lib.hasPrefix s.data.toList (⟨#[60]⟩:ByteArray).data.toList = true):=hide (by
    show Lib.hasPrefix s.data.toList [60] = true
    rw [hl,hasPrefix_60];exact decide_eq_true ha)
   have hmk:isMarkB s.data.toList = if s[1] = 33 \/ s[1] = 63 then true else if s[1] = 47 then !(s.data.toList.drop 2).isEmpty else letterB s[1]:=by
    conv=>lhs;rw [hl,ha]
    exact isMark_mk _ _
   have hc256:=byte_lt s[1]
   by_cases h33:s[1] = 33
   ·have t33:((s[1].toNat:Int) == 33) = true:=tT 33 h33 (by omega);have HR:Hid (isMarkB s.data.toList = true):=hide (by rw [hmk,if_pos (.inl h33)]);clear hmk hl e0 e1 hlen ha;go_enter Tryz.func66,Tryz.ntmps66;go_wp2_with fail;refine (Tryz.strings_HasPrefix s _ _).mono ?_;rintro e w1 ⟨rfl,hw⟩;subst hw;rw [HP.out];go_wp2_with fail;go_ret;exact ⟨ret_bool HR.out.symm,rfl⟩
   ·have t33:((s[1].toNat:Int) == 33) = false:=tF 33 h33 (by omega)
    by_cases h63:s[1] = 63
    ·have t63:((s[1].toNat:Int) == 63) = true:=tT 63 h63 (by omega);have HR:Hid (isMarkB s.data.toList = true):=hide (by rw [hmk,if_pos (.inr h63)]);clear hmk hl e0 e1 hlen ha;go_enter Tryz.func66,Tryz.ntmps66;go_wp2_with fail;refine (Tryz.strings_HasPrefix s _ _).mono ?_;rintro e w1 ⟨rfl,hw⟩;subst hw;rw [HP.out];go_wp2_with fail;go_ret;exact ⟨ret_bool HR.out.symm,rfl⟩
    ·have t63:((s[1].toNat:Int) == 63) = false:=tF 63 h63 (by omega);rw [if_neg (by rintro (h | h);exact h33 h;exact h63 h)] at hmk
     by_cases h47:s[1] = 47
     ·have t47:((s[1].toNat:Int) == 47) = true:=tT 47 h47 (by omega);rw [if_pos h47] at hmk
      have HR:Hid (isMarkB s.data.toList = decide ((2:Int) < s.size)):=hide (by
       rw [hmk];have hd:(s.data.toList.drop 2).length = s.size - 2:=by rw [List.length_drop,hlen]
       cases hdl:s.data.toList.drop 2 with
       | nil=>rw [hdl] at hd;exact (decide_eq_false (by simp at hd;omega)).symm
       | cons a r=>rw [hdl] at hd;exact (decide_eq_true (by simp at hd;omega)).symm)
      clear hmk hl e0 e1 hlen ha;go_enter Tryz.func66,Tryz.ntmps66;go_wp2_with fail;refine (Tryz.strings_HasPrefix s _ _).mono ?_;rintro e w1 ⟨rfl,hw⟩;subst hw;rw [HP.out];go_wp2_with fail;go_ret;exact ⟨ret_bool (by rw [HR.out]),rfl⟩
     ·have t47:((s[1].toNat:Int) == 47) = false:=tF 47 h47 (by omega);rw [if_neg h47] at hmk;have HR:=hide hmk;clear hmk hl e0 e1 hlen ha;go_enter Tryz.func66,Tryz.ntmps66;go_wp2_with fail;refine (Tryz.strings_HasPrefix s _ _).mono ?_;rintro e w1 ⟨rfl,hw⟩;subst hw;rw [HP.out];go_wp2_with fail;refine (letterW_any _ _).mono ?_;rintro e w1 ⟨rfl,rfl⟩;rw [<- HR.out];go_wp2_with fail;go_ret;exact ⟨rfl,rfl⟩
  ·have HP:Hid (Lib.hasPrefix s.data.toList (⟨#[60]⟩:ByteArray).data.toList = false):=hide (by
    show Lib.hasPrefix s.data.toList [60] = false
    rw [hl,hasPrefix_60];exact decide_eq_false ha)
   have HR:Hid (isMarkB s.data.toList = false):=hide (by rw [hl];exact isMark_head ha);clear hl e0 e1 hlen ha;go_enter Tryz.func66,Tryz.ntmps66;go_wp2_with fail;refine (Tryz.strings_HasPrefix s _ _).mono ?_;rintro e w1 ⟨rfl,hw⟩;subst hw;rw [HP.out];go_wp2_with fail;go_ret;exact ⟨ret_bool HR.out.symm,rfl⟩
set_option maxHeartbeats 2000000 in
theorem firstMark_any (s:ByteArray) (w:World) (hs:s.size <= 16777216) :
  Calls Tryz.prog 48 #[.string s] w fun e w'=>e = .returned (.int .i64 (markN s.data.toList:Nat)) /\ w = w':=by
 have hlen:=toList_length s;go_enter Tryz.func48,Tryz.ntmps48;go_wp2_with fail;go_loop [6] (fun i=>∃ k:Nat,k <= s.size /\ i = .int .i64 k /\ Hid (markN s.data.toList = k + markN (s.data.toList.drop k))) (fun i=>s.size - (intOf i).toNat)
 case atStart=>exact ⟨0,Nat.zero_le _,rfl,hide (by rw [List.drop_zero,Nat.zero_add])⟩
 case round =>
  obtain ⟨k,hk,rfl,HM⟩:=hrel
  by_cases hlt:k < s.size
  ·have hd:=drop_cons s k hlt;have hel:(s.extract k s.size).data.toList = s.data.toList.drop k:=extract_end s k;have HI:=hide (isMark_any (s.extract k s.size) w (by rw [ByteArray.size_extract];omega));rw [hel] at HI;cases hm:isMarkB (s.data.toList.drop k) with
   | true =>
    rw [hm] at HI
    have HR:Hid (markN s.data.toList = k):=hide (by
     rw [HM.out,hd];rw [hd] at hm;unfold markN;rw [if_pos hm,Nat.add_zero])
    clear hd hel hm hlen;go_wp2_with fail;refine HI.out.mono ?_;rintro e w1 ⟨rfl,rfl⟩;go_wp2_with fail;go_ret;exact ⟨ret_int (by rw [HR.out]),rfl⟩
   | false =>
    rw [hm] at HI
    have HM2:Hid (markN s.data.toList = (k + 1) + markN (s.data.toList.drop (k + 1))):=hide (by
     rw [HM.out,hd];rw [hd] at hm
     conv=>lhs;unfold markN
     rw [if_neg (by rw [hm];exact Bool.false_ne_true)];omega)
    clear hd hel hm hlen;go_wp2_with fail;refine HI.out.mono ?_;rintro e w1 ⟨rfl,rfl⟩;go_wp2_with fail;go_round
    case rel=>exact ⟨k + 1,by omega,by go_num,HM2⟩
    case measure=>simp [intOf];omega
  ·obtain rfl:k = s.size:=by omega
   have HR:Hid (markN s.data.toList = s.size):=hide (by
    rw [HM.out,List.drop_eq_nil_of_le (by rw [hlen];exact Nat.le_refl _)];rfl)
   clear hlen;go_wp2_with fail;go_ret;exact ⟨ret_int (by rw [HR.out]),rfl⟩
end Go.Proofs.YtmgpmdfmkdhfgaaGreatDoor
