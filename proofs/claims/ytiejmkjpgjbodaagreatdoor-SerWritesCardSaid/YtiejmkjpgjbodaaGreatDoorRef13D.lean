import Derived.Test.YtiejmkjpgjbodaaGreatDoorRef13A
import Derived.Test.YtiejmkjpgjbodaaGreatDoorBaseM
namespace Go.Proofs.YtiejmkjpgjbodaaGreatDoor
open Go.RowKit
set_option linter.unusedVariables false
set_option linter.unusedSimpArgs false
set_option maxRecDepth 100000
def letterAt (l:List UInt8) (k:Nat):Bool:=match l.drop k with
  | c :: _=>letterB c
  | []=>false
set_option maxHeartbeats 4000000 in
theorem letterAt_any (s:ByteArray) (b k:Nat) (w:World) (hs:s.size <= 16777216) (hk:k <= s.size + 10) (h0:w.cell? ⟨b,0,none⟩ = some (.string s)) :
  Calls Tryz.prog 128 #[.pointer (some ⟨b,0,none⟩),.int .i64 k] w fun e w'=>e = .returned (.bool (letterAt s.data.toList k)) /\ w = w':=by
 by_cases hlt:k < s.size
 ·have hd:=drop_cons s k hlt;have hL:=fun w2=>letter_any s[k] w2
  obtain ⟨c,hc⟩:∃ c,s[k] = c:=⟨_,rfl⟩
  have hcn:(s[k]'hlt).toNat = c.toNat:=by rw [hc]
  rw [hc] at hd hL;have hv:letterAt s.data.toList k = letterB c:=by unfold letterAt;rw [hd]
  rw [hv];have HL:=hide hL;clear hd hc hL hv;go_enter Tryz.func128,Tryz.ntmps128;go_wp2_with (go_at_call 152;refine (HL.out _).mono ?_;rintro e w2 ⟨rfl,rfl⟩);go_ret;exact ⟨rfl,rfl⟩
 ·have hv:letterAt s.data.toList k = false:=by
   unfold letterAt;rw [List.drop_eq_nil_of_le (by rw [toList_length];omega)]
  rw [hv];have t0:decide ((k:Int) < s.size) = false:=decide_eq_false (by omega);clear hv;go_enter Tryz.func128,Tryz.ntmps128;go_wp2_with fail;go_ret;exact ⟨rfl,rfl⟩
set_option maxHeartbeats 4000000 in
theorem hasAt_any (s t:ByteArray) (b k:Nat) (w:World) (hs:s.size <= 16777216) (hk:k <= s.size + 10) (ht:1 <= t.size) (ht2:t.size <= 100) (h0:w.cell? ⟨b,0,none⟩ = some (.string s)) :
  Calls Tryz.prog 129 #[.pointer (some ⟨b,0,none⟩),.int .i64 k,.string t] w fun e w'=>e = .returned (.bool (t.data.toList.isPrefixOf (s.data.toList.drop k))) /\ w = w':=by
 have t0:wrap64 ((k:Int) + (t.size:Int)) = (k:Int) + t.size:=by unfold wrap64;omega
 by_cases hlt:k + t.size <= s.size
 ·have hpx:=ext_prefix s t k hlt;obtain ⟨P,hP⟩:∃ P,s.extract k (k + t.size) = P:=⟨_,rfl⟩
  rw [hP] at hpx;have t1:decide ((k:Int) + t.size <= s.size) = true:=decide_eq_true (by omega);have t2:(k:Int) + t.size <= s.size:=by omega
  have t3:((k:Int) + t.size).toNat = k + t.size:=by omega
  obtain ⟨B,hB⟩:∃ B,B = t.data.toList.isPrefixOf (s.data.toList.drop k):=⟨_,rfl⟩
  rw [<- hB] at hpx ⊢;clear hB;go_enter Tryz.func129,Tryz.ntmps129;go_wp2_with fail;go_ret;exact ⟨rfl,rfl⟩
 ·have hv:t.data.toList.isPrefixOf (s.data.toList.drop k) = false:=by
   cases hp:t.data.toList.isPrefixOf (s.data.toList.drop k) with
   | false=>rfl
   | true =>
    have h1:=(List.isPrefixOf_iff_prefix.1 hp).length_le;rw [List.length_drop,toList_length,toList_length] at h1;omega
  rw [hv];have t1:decide ((k:Int) + t.size <= s.size) = false:=decide_eq_false (by omega);clear hv;go_enter Tryz.func129,Tryz.ntmps129;go_wp2_with fail;go_ret;exact ⟨rfl,rfl⟩
theorem pre2 {a b:UInt8} {r:List UInt8}:([60,a]:List UInt8).isPrefixOf (60 :: b :: r) = (a == b):=by simp [List.isPrefixOf]
theorem pre1 {a:UInt8}:([60,a]:List UInt8).isPrefixOf [60] = false:=by simp [List.isPrefixOf]
set_option maxHeartbeats 4000000 in
theorem begins13_any (s:ByteArray) (b k:Nat) (w:World) (hs:s.size <= 16777216) (hlt:k < s.size) (h60:s[k] = 60) (h0:w.cell? ⟨b,0,none⟩ = some (.string s)) :
  Calls Tryz.prog 88 #[.pointer (some ⟨b,0,none⟩),.int .i64 k] w fun e w'=>e = .returned (.int .i64 (beginsN (s.data.toList.drop (k + 1)):Nat)) /\ w = w':=by
 have hd:=drop_cons s k hlt;rw [h60] at hd;have hla:=toList_length s;have HL1:=hide (fun w2 h=>letterAt_any s b (k + 1) w2 (by omega) (by omega) h);have HL2:=hide (fun w2 h=>letterAt_any s b (k + 2) w2 (by omega) (by omega) h);have HS:=hide (fun w2 h=>hasAt_any s ⟨#[60,47]⟩ b k w2 (by omega) (by omega) (by decide) (by decide) h);have HE:=hide (fun w2 h=>hasAt_any s ⟨#[60,33]⟩ b k w2 (by omega) (by omega) (by decide) (by decide) h);have HQ:=hide (fun w2 h=>hasAt_any s ⟨#[60,63]⟩ b k w2 (by omega) (by omega) (by decide) (by decide) h);rw [show ((k + 1:Nat):Int) = (k:Int) + 1 by omega] at HL1;rw [show ((k + 2:Nat):Int) = (k:Int) + 2 by omega] at HL2;have hrl:(s.data.toList.drop (k + 1)).length = s.size - (k + 1):=by rw [List.length_drop,hla]
 have hk2:(s.data.toList.drop (k + 1)).drop 1 = s.data.toList.drop (k + 2):=by rw [List.drop_drop]
 have hl1:letterAt s.data.toList (k + 1) = (match s.data.toList.drop (k + 1) with | d :: _=>letterB d | []=>false):=rfl;have hl2:letterAt s.data.toList (k + 2) = (match s.data.toList.drop (k + 2) with | d :: _=>letterB d | []=>false):=rfl;rw [hd] at HS HE HQ;rw [hl1] at HL1;rw [hl2,<- hk2] at HL2;have p1:(⟨#[60,47]⟩:ByteArray).data.toList = [60,47]:=rfl;have p2:(⟨#[60,33]⟩:ByteArray).data.toList = [60,33]:=rfl;have p3:(⟨#[60,63]⟩:ByteArray).data.toList = [60,63]:=rfl;rw [p1] at HS;rw [p2] at HE;rw [p3] at HQ;generalize s.data.toList.drop (k + 1) = r at HL1 HL2 HS HE HQ hrl;clear hd hla hk2 hl1 hl2 p1 p2 p3 h60;cases r with
 | nil =>
  rw [pre1] at HS HE HQ;simp only at HL1;clear HL2 hrl;go_enter Tryz.func88,Tryz.ntmps88;go_wp2_with fail;refine (HL1.out _ h0).mono ?_;rintro e w1 ⟨rfl,hw⟩;subst hw;go_wp2_with fail;refine (HS.out _ h0).mono ?_;rintro e w1 ⟨rfl,hw⟩;subst hw;go_wp2_with fail;refine (HS.out _ h0).mono ?_;rintro e w1 ⟨rfl,hw⟩;subst hw;go_wp2_with fail;refine (HE.out _ h0).mono ?_;rintro e w1 ⟨rfl,hw⟩;subst hw;go_wp2_with fail;refine (HQ.out _ h0).mono ?_;rintro e w1 ⟨rfl,hw⟩;subst hw;go_wp2_with fail;go_ret;exact ⟨rfl,rfl⟩
 | cons c q =>
  rw [pre2] at HS HE HQ;rw [begins_cons];simp only [List.drop_succ_cons,List.drop_zero] at HL1 HL2;cases hl:letterB c with
  | true =>
   rw [hl] at HL1;rw [if_pos rfl];clear hl HL2 hrl HS HE HQ;go_enter Tryz.func88,Tryz.ntmps88;go_wp2_with fail;refine (HL1.out _ h0).mono ?_;rintro e w1 ⟨rfl,hw⟩;subst hw;go_wp2_with fail;go_ret;exact ⟨rfl,rfl⟩
  | false =>
   rw [hl] at HL1;rw [if_neg (by decide)];clear hl
   by_cases h47:c = 47
   ·subst h47;rw [if_pos rfl];rw [show ((47:UInt8) == 47) = true from rfl] at HS;rw [show ((33:UInt8) == 47) = false from rfl] at HE;rw [show ((63:UInt8) == 47) = false from rfl] at HQ;cases q with
    | nil =>
     simp only at HL2;have hk2:k + 2 = s.size:=by simp only [List.length_cons,List.length_nil] at hrl;omega
     have t2:decide ((k:Int) + 2 < s.size) = false:=decide_eq_false (by omega);clear hk2 hrl;go_enter Tryz.func88,Tryz.ntmps88;go_wp2_with fail;refine (HL1.out _ h0).mono ?_;rintro e w1 ⟨rfl,hw⟩;subst hw;go_wp2_with fail;refine (HS.out _ h0).mono ?_;rintro e w1 ⟨rfl,hw⟩;subst hw;go_wp2_with fail;refine (HL2.out _ h0).mono ?_;rintro e w1 ⟨rfl,hw⟩;subst hw;go_wp2_with fail;refine (HS.out _ h0).mono ?_;rintro e w1 ⟨rfl,hw⟩;subst hw;go_wp2_with fail;refine (HE.out _ h0).mono ?_;rintro e w1 ⟨rfl,hw⟩;subst hw;go_wp2_with fail;refine (HQ.out _ h0).mono ?_;rintro e w1 ⟨rfl,hw⟩;subst hw;go_wp2_with fail;go_ret;exact ⟨rfl,rfl⟩
    | cons d e =>
     simp only at HL2 ⊢;have t2:decide ((k:Int) + 2 < s.size) = true:=decide_eq_true (by simp only [List.length_cons] at hrl;omega);clear hrl;cases hl2:letterB d with
     | true =>
      rw [hl2] at HL2;rw [if_pos rfl];clear hl2;go_enter Tryz.func88,Tryz.ntmps88;go_wp2_with fail;refine (HL1.out _ h0).mono ?_;rintro e w1 ⟨rfl,hw⟩;subst hw;go_wp2_with fail;refine (HS.out _ h0).mono ?_;rintro e w1 ⟨rfl,hw⟩;subst hw;go_wp2_with fail;refine (HL2.out _ h0).mono ?_;rintro e w1 ⟨rfl,hw⟩;subst hw;go_wp2_with fail;go_ret;exact ⟨rfl,rfl⟩
     | false =>
      rw [hl2] at HL2;rw [if_neg (by decide)];clear hl2;go_enter Tryz.func88,Tryz.ntmps88;go_wp2_with fail;refine (HL1.out _ h0).mono ?_;rintro e w1 ⟨rfl,hw⟩;subst hw;go_wp2_with fail;refine (HS.out _ h0).mono ?_;rintro e w1 ⟨rfl,hw⟩;subst hw;go_wp2_with fail;refine (HL2.out _ h0).mono ?_;rintro e w1 ⟨rfl,hw⟩;subst hw;go_wp2_with fail;refine (HS.out _ h0).mono ?_;rintro e w1 ⟨rfl,hw⟩;subst hw;go_wp2_with fail;go_ret;exact ⟨rfl,rfl⟩
   ·rw [if_neg h47];rw [beq_eq_false_iff_ne.2 (fun e=>h47 e.symm)] at HS
    by_cases h33:c = 33
    ·subst h33;rw [if_pos (.inl rfl)];rw [show ((33:UInt8) == 33) = true from rfl] at HE;clear h47 hrl HL2;go_enter Tryz.func88,Tryz.ntmps88;go_wp2_with fail;refine (HL1.out _ h0).mono ?_;rintro e w1 ⟨rfl,hw⟩;subst hw;go_wp2_with fail;refine (HS.out _ h0).mono ?_;rintro e w1 ⟨rfl,hw⟩;subst hw;go_wp2_with fail;refine (HS.out _ h0).mono ?_;rintro e w1 ⟨rfl,hw⟩;subst hw;go_wp2_with fail;refine (HE.out _ h0).mono ?_;rintro e w1 ⟨rfl,hw⟩;subst hw;go_wp2_with fail;go_ret;exact ⟨rfl,rfl⟩
    ·rw [beq_eq_false_iff_ne.2 (fun e=>h33 e.symm)] at HE
     by_cases h63:c = 63
     ·subst h63;rw [if_pos (.inr rfl)];rw [show ((63:UInt8) == 63) = true from rfl] at HQ;clear h47 h33 hrl HL2;go_enter Tryz.func88,Tryz.ntmps88;go_wp2_with fail;refine (HL1.out _ h0).mono ?_;rintro e w1 ⟨rfl,hw⟩;subst hw;go_wp2_with fail;refine (HS.out _ h0).mono ?_;rintro e w1 ⟨rfl,hw⟩;subst hw;go_wp2_with fail;refine (HS.out _ h0).mono ?_;rintro e w1 ⟨rfl,hw⟩;subst hw;go_wp2_with fail;refine (HE.out _ h0).mono ?_;rintro e w1 ⟨rfl,hw⟩;subst hw;go_wp2_with fail;refine (HQ.out _ h0).mono ?_;rintro e w1 ⟨rfl,hw⟩;subst hw;go_wp2_with fail;go_ret;exact ⟨rfl,rfl⟩
     ·rw [if_neg (fun h=>h.elim h33 h63)];rw [beq_eq_false_iff_ne.2 (fun e=>h63 e.symm)] at HQ;clear h47 h33 h63 hrl HL2;go_enter Tryz.func88,Tryz.ntmps88;go_wp2_with fail;refine (HL1.out _ h0).mono ?_;rintro e w1 ⟨rfl,hw⟩;subst hw;go_wp2_with fail;refine (HS.out _ h0).mono ?_;rintro e w1 ⟨rfl,hw⟩;subst hw;go_wp2_with fail;refine (HS.out _ h0).mono ?_;rintro e w1 ⟨rfl,hw⟩;subst hw;go_wp2_with fail;refine (HE.out _ h0).mono ?_;rintro e w1 ⟨rfl,hw⟩;subst hw;go_wp2_with fail;refine (HQ.out _ h0).mono ?_;rintro e w1 ⟨rfl,hw⟩;subst hw;go_wp2_with fail;go_ret;exact ⟨rfl,rfl⟩
end Go.Proofs.YtiejmkjpgjbodaaGreatDoor
