import Derived.Test.YtiejmkjpgjbodaaGreatDoorRef12N
import Derived.Test.YtiejmkjpgjbodaaGreatDoorBaseM
import Derived.Test.YtiejmkjpgjbodaaGreatDoorRefD2
namespace Go.Proofs.YtiejmkjpgjbodaaGreatDoor
open Go.RowKit
set_option linter.unusedVariables false
set_option linter.unusedSimpArgs false
set_option maxRecDepth 100000
def digsI (b m:Nat) (l:List UInt8):Int:=if l.length < 1 \/ m < l.length then -1 else match parseB b 0 l with
  | some n=>n
  | none=>-1
theorem digs_num {b m:Nat} (hb:0 < b) (l:List UInt8):(∃ n:Nat,digsI b m l = n /\ numAt b m l = some (signN n) /\ n < b ^ l.length /\ l.length <= m) \/ (digsI b m l = -1 /\ numAt b m l = none):=by
 unfold digsI numAt parseU
 by_cases h0:l = []
 ·subst h0;exact .inr ⟨by rw [if_pos (.inl (by decide))],by rw [if_pos rfl]⟩
 ·have hl:¬ l.length < 1:=by
   intro h;exact h0 (List.eq_nil_of_length_eq_zero (by omega))
  rw [if_neg h0]
  by_cases hm:m < l.length
  ·refine .inr ⟨by rw [if_pos (.inr hm)],?_⟩;cases parseB b 0 l with
   | none=>rfl
   | some n=>simp only;rw [if_pos hm]
  ·rw [if_neg (by omega)];cases hp:parseB b 0 l with
   | none=>exact .inr ⟨rfl,rfl⟩
   | some n =>
    have:=parseB_lt hb l 0 n hp;refine .inl ⟨n,rfl,?_,by omega,by omega⟩;simp only;rw [if_neg hm]
theorem dig_hex10 (c:UInt8):(∃ d:Nat,d < 10 /\ hexI c = (d:Int) /\ digB 10 c = some d) \/ (hexI c = -1 /\ digB 10 c = none) \/ (∃ d:Nat,10 <= d /\ d < 16 /\ hexI c = (d:Int) /\ digB 10 c = none):=by
 have:=u8_all (p:=fun c=>(dgV c < 10 /\ hexI c = (dgV c:Int) /\ digB 10 c = some (dgV c)) \/ (hexI c = -1 /\ digB 10 c = none) \/ ((10 <= (hexI c).toNat /\ (hexI c).toNat < 16 /\ hexI c = ((hexI c).toNat:Int)) /\ digB 10 c = none)) (by decide +kernel) c;rcases this with ⟨h1,h2,h3⟩ | ⟨h1,h2⟩ | ⟨⟨h1,h2,h3⟩,h4⟩
 ·exact .inl ⟨_,h1,h2,h3⟩
 ·exact .inr (.inl ⟨h1,h2⟩)
 ·exact .inr (.inr ⟨_,h1,h2,h3,h4⟩)
theorem dig_hex16 (c:UInt8):(∃ d:Nat,d < 16 /\ hexI c = (d:Int) /\ digB 16 c = some d) \/ (hexI c = -1 /\ digB 16 c = none) \/ (∃ d:Nat,16 <= d /\ d < 16 /\ hexI c = (d:Int) /\ digB 16 c = none):=by
 have:=u8_all (p:=fun c=>(dgV c < 16 /\ hexI c = (dgV c:Int) /\ digB 16 c = some (dgV c)) \/ (hexI c = -1 /\ digB 16 c = none) \/ ((16 <= (hexI c).toNat /\ (hexI c).toNat < 16 /\ hexI c = ((hexI c).toNat:Int)) /\ digB 16 c = none)) (by decide +kernel) c;rcases this with ⟨h1,h2,h3⟩ | ⟨h1,h2⟩ | ⟨⟨h1,h2,h3⟩,h4⟩
 ·exact .inl ⟨_,h1,h2,h3⟩
 ·exact .inr (.inl ⟨h1,h2⟩)
 ·exact .inr (.inr ⟨_,h1,h2,h3,h4⟩)
set_option maxHeartbeats 4000000 in
theorem refDigs10 (s:ByteArray) (w:World) :
  Calls Tryz.prog 158 #[.string s,.int .i64 10,.int .i64 7] w fun e w'=>e = .returned (.int .i64 (digsI 10 7 s.data.toList)) /\ w' = w:=by
 by_cases h0:s.size < 1
 ·have HV:Hid (digsI 10 7 s.data.toList = -1):=hide (by unfold digsI;rw [if_pos (.inl (by rw [toList_length];exact h0))]);have q1:decide ((s.size:Int) < 1) = true:=decide_eq_true (by omega);clear h0;go_enter Tryz.func158,Tryz.ntmps158;go_wp2_with fail;go_ret;exact ⟨by rw [HV.out] <;> rfl,rfl⟩
 have q1:decide ((s.size:Int) < 1) = false:=decide_eq_false (by omega)
 by_cases hm:7 < s.size
 ·have HV:Hid (digsI 10 7 s.data.toList = -1):=hide (by unfold digsI;rw [if_pos (.inr (by rw [toList_length];exact hm))]);have q2:decide ((7:Int) < (s.size:Int)) = true:=decide_eq_true (by omega);clear h0 hm;go_enter Tryz.func158,Tryz.ntmps158;go_wp2_with fail;go_ret;exact ⟨by rw [HV.out] <;> rfl,rfl⟩
 have q2:decide ((7:Int) < (s.size:Int)) = false:=decide_eq_false (by omega);have hs7:s.size <= 7:=by omega
 have HS0:=hide h0;have HM0:=hide hm;clear h0 hm;go_enter Tryz.func158,Tryz.ntmps158;go_wp2_with fail;clear q1 q2;go_loopw [7,8] (fun nv iv wr=>∃ k n:Nat,k <= s.size /\ iv = .int .i64 k /\ nv = .int .i64 n /\ Hid (n + 1 <= 10 ^ k) /\ Hid (parseB 10 n (s.data.toList.drop k) = parseB 10 0 s.data.toList) /\ Hid (wr = w)) (fun _ iv _=>s.size - (intOf iv).toNat)
 case atStart=>exact ⟨0,0,Nat.zero_le _,rfl,rfl,hide (Nat.le_refl _),hide rfl,hide rfl⟩
 case round =>
  obtain ⟨k,n,hk,rfl,rfl,HP,HG,HW⟩:=hrel;obtain rfl:=HW.out
  by_cases hlt:k < s.size
  ·have hst:=HG.out;rw [drop_cons s k hlt,parseB] at hst;have hs0:=HS0.out;rcases dig_hex10 s[k] with h | h | h
   ·
    obtain ⟨d,hd,he,hg⟩:=h;rw [hg] at hst;have HN:Hid (parseB 10 (n * 10 + d) (s.data.toList.drop (k + 1)) = parseB 10 0 s.data.toList):=hide hst;have HB1:Hid (n * 10 + d + 1 <= 10 ^ (k + 1)):=hide (par_step HP.out hd);have hb2:n * 10 + d + 1 <= 10 ^ 7:=Nat.le_trans HB1.out (Nat.pow_le_pow_right (by decide) (by omega:k + 1 <= 7));have x1:IntKind.i64.wrap ((n:Int) * 10) = (n:Int) * 10:=IntWalk.i64_in _ (by omega);have x2:IntKind.i64.wrap ((n:Int) * 10 + (d:Int)) = (n:Int) * 10 + d:=IntWalk.i64_in _ (by omega);have t1:decide ((d:Int) < 0) = false:=decide_eq_false (by omega);have t2:decide ((10:Int) <= (d:Int)) = false:=decide_eq_false (by omega);have hdb:d < 10:=hd;clear hst hg hb2 hd;go_wp2_with (go_at_call 179;refine (refHex_still he _).mono ?_;rintro e wx ⟨rfl,hwx⟩;obtain rfl:=hwx);go_roundw
    case rel=>exact ⟨k + 1,n * 10 + d,by omega,by go_num,by first | rfl | simp,HB1,HN,by first | exact trivial | exact hide rfl⟩
    case measure=>simp [intOf];omega
   ·
    obtain ⟨he,hg⟩:=h;rw [hg] at hst;have HV:Hid (digsI 10 7 s.data.toList = -1):=hide (by unfold digsI;rw [if_neg (by rw [toList_length];omega),<- hst]);clear hst hg;go_wp2_with (go_at_call 179;refine (refHex_still he _).mono ?_;rintro e wx ⟨rfl,hwx⟩;obtain rfl:=hwx);go_ret;exact ⟨by rw [HV.out] <;> rfl,rfl⟩
   ·
    obtain ⟨d,hd,hd2,he,hg⟩:=h;rw [hg] at hst;have HV:Hid (digsI 10 7 s.data.toList = -1):=hide (by unfold digsI;rw [if_neg (by rw [toList_length];omega),<- hst]);have t1:decide ((d:Int) < 0) = false:=decide_eq_false (by omega);have t2:decide ((10:Int) <= (d:Int)) = true:=decide_eq_true (by omega);clear hst hg hd hd2;go_wp2_with (go_at_call 179;refine (refHex_still he _).mono ?_;rintro e wx ⟨rfl,hwx⟩;obtain rfl:=hwx);go_ret;exact ⟨by rw [HV.out] <;> rfl,rfl⟩
  ·have hst:=HG.out;rw [drop_nil s k (by omega),parseB] at hst;have HV:Hid (digsI 10 7 s.data.toList = n):=hide (by unfold digsI;rw [if_neg (by rw [toList_length];have:=HS0.out;omega),<- hst]);clear hst;go_wp2_with fail;go_ret;exact ⟨by rw [HV.out] <;> rfl,rfl⟩
set_option maxHeartbeats 4000000 in
theorem refDigs16 (s:ByteArray) (w:World) :
  Calls Tryz.prog 158 #[.string s,.int .i64 16,.int .i64 6] w fun e w'=>e = .returned (.int .i64 (digsI 16 6 s.data.toList)) /\ w' = w:=by
 by_cases h0:s.size < 1
 ·have HV:Hid (digsI 16 6 s.data.toList = -1):=hide (by unfold digsI;rw [if_pos (.inl (by rw [toList_length];exact h0))]);have q1:decide ((s.size:Int) < 1) = true:=decide_eq_true (by omega);clear h0;go_enter Tryz.func158,Tryz.ntmps158;go_wp2_with fail;go_ret;exact ⟨by rw [HV.out] <;> rfl,rfl⟩
 have q1:decide ((s.size:Int) < 1) = false:=decide_eq_false (by omega)
 by_cases hm:6 < s.size
 ·have HV:Hid (digsI 16 6 s.data.toList = -1):=hide (by unfold digsI;rw [if_pos (.inr (by rw [toList_length];exact hm))]);have q2:decide ((6:Int) < (s.size:Int)) = true:=decide_eq_true (by omega);clear h0 hm;go_enter Tryz.func158,Tryz.ntmps158;go_wp2_with fail;go_ret;exact ⟨by rw [HV.out] <;> rfl,rfl⟩
 have q2:decide ((6:Int) < (s.size:Int)) = false:=decide_eq_false (by omega);have hs7:s.size <= 6:=by omega
 have HS0:=hide h0;have HM0:=hide hm;clear h0 hm;go_enter Tryz.func158,Tryz.ntmps158;go_wp2_with fail;clear q1 q2;go_loopw [7,8] (fun nv iv wr=>∃ k n:Nat,k <= s.size /\ iv = .int .i64 k /\ nv = .int .i64 n /\ Hid (n + 1 <= 16 ^ k) /\ Hid (parseB 16 n (s.data.toList.drop k) = parseB 16 0 s.data.toList) /\ Hid (wr = w)) (fun _ iv _=>s.size - (intOf iv).toNat)
 case atStart=>exact ⟨0,0,Nat.zero_le _,rfl,rfl,hide (Nat.le_refl _),hide rfl,hide rfl⟩
 case round =>
  obtain ⟨k,n,hk,rfl,rfl,HP,HG,HW⟩:=hrel;obtain rfl:=HW.out
  by_cases hlt:k < s.size
  ·have hst:=HG.out;rw [drop_cons s k hlt,parseB] at hst;have hs0:=HS0.out;rcases dig_hex16 s[k] with h | h | h
   ·
    obtain ⟨d,hd,he,hg⟩:=h;rw [hg] at hst;have HN:Hid (parseB 16 (n * 16 + d) (s.data.toList.drop (k + 1)) = parseB 16 0 s.data.toList):=hide hst;have HB1:Hid (n * 16 + d + 1 <= 16 ^ (k + 1)):=hide (par_step HP.out hd);have hb2:n * 16 + d + 1 <= 16 ^ 7:=Nat.le_trans HB1.out (Nat.pow_le_pow_right (by decide) (by omega:k + 1 <= 7));have x1:IntKind.i64.wrap ((n:Int) * 16) = (n:Int) * 16:=IntWalk.i64_in _ (by omega);have x2:IntKind.i64.wrap ((n:Int) * 16 + (d:Int)) = (n:Int) * 16 + d:=IntWalk.i64_in _ (by omega);have t1:decide ((d:Int) < 0) = false:=decide_eq_false (by omega);have t2:decide ((16:Int) <= (d:Int)) = false:=decide_eq_false (by omega);have hdb:d < 16:=hd;clear hst hg hb2 hd;go_wp2_with (go_at_call 179;refine (refHex_still he _).mono ?_;rintro e wx ⟨rfl,hwx⟩;obtain rfl:=hwx);go_roundw
    case rel=>exact ⟨k + 1,n * 16 + d,by omega,by go_num,by first | rfl | simp,HB1,HN,by first | exact trivial | exact hide rfl⟩
    case measure=>simp [intOf];omega
   ·
    obtain ⟨he,hg⟩:=h;rw [hg] at hst;have HV:Hid (digsI 16 6 s.data.toList = -1):=hide (by unfold digsI;rw [if_neg (by rw [toList_length];omega),<- hst]);clear hst hg;go_wp2_with (go_at_call 179;refine (refHex_still he _).mono ?_;rintro e wx ⟨rfl,hwx⟩;obtain rfl:=hwx);go_ret;exact ⟨by rw [HV.out] <;> rfl,rfl⟩
   ·
    obtain ⟨d,hd,hd2,he,hg⟩:=h;rw [hg] at hst;have HV:Hid (digsI 16 6 s.data.toList = -1):=hide (by unfold digsI;rw [if_neg (by rw [toList_length];omega),<- hst]);have t1:decide ((d:Int) < 0) = false:=decide_eq_false (by omega);have t2:decide ((16:Int) <= (d:Int)) = true:=decide_eq_true (by omega);clear hst hg hd hd2;go_wp2_with (go_at_call 179;refine (refHex_still he _).mono ?_;rintro e wx ⟨rfl,hwx⟩;obtain rfl:=hwx);go_ret;exact ⟨by rw [HV.out] <;> rfl,rfl⟩
  ·have hst:=HG.out;rw [drop_nil s k (by omega),parseB] at hst;have HV:Hid (digsI 16 6 s.data.toList = n):=hide (by unfold digsI;rw [if_neg (by rw [toList_length];have:=HS0.out;omega),<- hst]);clear hst;go_wp2_with fail;go_ret;exact ⟨by rw [HV.out] <;> rfl,rfl⟩
theorem rune_bad {n:Int} (h:n < 0 \/ (55296 <= n /\ n <= 57343) \/ 1114111 < n):runeL n = runeL 65533:=by
 rw [show runeL n = bad from runeL_bad h];decide
set_option maxHeartbeats 4000000 in
theorem sign_big (n:Nat) (w:World) (hn:1114111 < n) (hb:n <= 16777216) :
  Calls Tryz.prog 181 #[.int .i64 n] w fun e w'=>e = .returned (.string (str (runeL n))) /\ Below w.heap.size w w':=by
 have t1:decide ((n:Int) < 0) = false:=decide_eq_false (by omega);have t2:decide ((1114111:Int) < n) = true:=decide_eq_true (by omega);have HB:Hid (runeL (n:Int) = bad):=hide (runeL_bad (by omega));clear hn hb;go_enter Tryz.func181,Tryz.ntmps181;go_wp2;go_ret;exact ⟨ret_str (by rw [HB.out];rfl),Below.refl _ _⟩
theorem sign_all (n:Nat) (w:World) (hb:n <= 16777216) :
  Calls Tryz.prog 181 #[.int .i64 n] w fun e w'=>e = .returned (.string (str (runeL n))) /\ Below w.heap.size w w':=by
 by_cases h:n <= 1114111
 ·exact sign_any n w h
 ·exact sign_big n w (by omega) hb
set_option maxHeartbeats 4000000 in
theorem refNumbered_any (n:Nat) (w:World) (hb:n <= 16777216) :
  Calls Tryz.prog 159 #[.int .i64 n] w fun e w'=>e = .returned (.string (str (runeL (signN n)))) /\ Below w.heap.size w w':=by
 by_cases h0:n = 0
 ·subst h0;have HV:Hid (str (runeL (signN 0)) = ⟨#[239,191,189]⟩):=hide (by decide);go_enter Tryz.func159,Tryz.ntmps159;go_wp2_with fail;go_ret;exact ⟨by rw [HV.out] <;> rfl,Below.refl _ _⟩
 have t0:((n:Int) == 0) = false:=beq_eq_false_iff_ne.2 (by omega)
 by_cases h1:128 <= n /\ n <= 159
 ·have t1:decide ((128:Int) <= n) = true:=decide_eq_true (by omega);have t2:decide ((n:Int) <= 159) = true:=decide_eq_true (by omega);have w1:IntKind.u8.wrap (n:Int) = n:=IntWalk.u8_in _ (by omega);have hcv:=conv1
  have HV:Hid (winL (strOfNums [(n:Int)]).data.toList = runeL (signN n)):=hide (by
   rw [nums_list,List.map_cons,List.map_nil,Int.toNat_natCast,winL_cons,signN_window h1.1 h1.2];show _ ++ [] = _
   rw [List.append_nil])
  have HD:=hide (fun (w:World)=>refDec2 ⟨#[119,105,110,100,111,119,115,45,49,50,53,50]⟩ (strOfNums [(n:Int)]) w (by decide) (by rw [<- toList_length,nums_list];simp) kind_win);rw [HV.out] at HD;clear h0 h1 hb;go_enter Tryz.func159,Tryz.ntmps159;go_wp2_with (go_at_call 180;refine (HD.out _).mono ?_;rintro e w3 ⟨rfl,hb3⟩);go_ret;exact ⟨rfl,((Below.refl _ w).alloc (Nat.le_refl _) _).trans (hb3.mono (by rw [World.size_alloc];omega))⟩
 ·have HV:Hid (runeL (signN n) = runeL n):=hide (by
   by_cases hx:n = 0 \/ 1114111 < n \/ (55296 <= n /\ n <= 57343)
   ·rw [signN_bad hx,rune_bad (n:=(n:Int)) (by omega)]
   ·rw [signN_own hx h1])
  have tt:(decide ((128:Int) <= n) = false) \/ (decide ((128:Int) <= n) = true /\ decide ((n:Int) <= 159) = false):=by
   by_cases g:128 <= n
   ·exact .inr ⟨decide_eq_true (by omega),decide_eq_false (by omega)⟩
   ·exact .inl (decide_eq_false (by omega))
  have HS:=hide (fun (w:World)=>sign_all n w hb);clear h0 h1 hb;rcases tt with t1 | ⟨t1,t2⟩
  all_goals
   go_enter Tryz.func159,Tryz.ntmps159;go_wp2_with (go_at_call 181;refine (HS.out _).mono ?_;rintro e w3 ⟨rfl,hb3⟩);go_ret;exact ⟨by rw [HV.out] <;> rfl,hb3⟩
end Go.Proofs.YtiejmkjpgjbodaaGreatDoor
