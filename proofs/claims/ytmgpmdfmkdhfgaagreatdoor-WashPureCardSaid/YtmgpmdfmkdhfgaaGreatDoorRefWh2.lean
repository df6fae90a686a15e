import Derived.Test.YtmgpmdfmkdhfgaaGreatDoorRefWh0
namespace Go.Proofs.YtmgpmdfmkdhfgaaGreatDoor
open Go.RowKit
set_option linter.unusedVariables false
set_option linter.unusedSimpArgs false
set_option maxRecDepth 100000 in
set_option maxHeartbeats 4000000 in
theorem wholeS2 (s:ByteArray) (k:Nat) (w:World) (hs:s.size <= 70368744177664) (hk:k < s.size) (a:UInt8) (ha:s[k] = a) (h:192 <= a.toNat) (h':a.toNat < 224) (hz:s.size < k + 2) :
  Calls Tryz.prog 23 #[.string s,.int .i64 k] w fun e w'=>e = .returned (.int .i64 0) /\ w = w':=by
 have ba:=byte_lt a;have wa:wrap64 (a.toNat:Int) = a.toNat:=IntWalk.wrap64_in _ (by omega);have a1:decide ((a.toNat:Int) < 128) = false:=decide_eq_false (by omega);have b0:decide ((192:Int) <= a.toNat) = true:=decide_eq_true (by omega);have c0:decide ((a.toNat:Int) < 224) = true:=decide_eq_true (by omega);have z1:(s.size:Int) < (k:Int) + 2:=by omega
 have v1:IntKind.i64.wrap ((a.toNat:Int) - 192) = (a.toNat:Int) - 192:=IntWalk.i64_in _ (by omega);clear h h' hz;go_enter Tryz.func23,Tryz.ntmps23;go_wp2;go_ret;exact ⟨rfl,rfl⟩
set_option maxRecDepth 100000 in
set_option maxHeartbeats 4000000 in
theorem wholeL2 (s:ByteArray) (k:Nat) (w:World) (hs:s.size <= 70368744177664) (hk:k < s.size) (a:UInt8) (ha:s[k] = a) (h:192 <= a.toNat) (h':a.toNat < 224) (hz:k + 2 <= s.size) (b:UInt8) (hb:s[k + 1] = b) :
  Calls Tryz.prog 23 #[.string s,.int .i64 k] w fun e w'=>e = .returned (.int .i64 (wholeN (a :: b :: []):Nat)) /\ w = w':=by
 have ba:=byte_lt a;have wa:wrap64 (a.toNat:Int) = a.toNat:=IntWalk.wrap64_in _ (by omega);obtain ⟨W,hW⟩:∃ W,W = wholeN [a,b]:=⟨_,rfl⟩
 rw [<- hW];rw [w2 h h'] at hW;obtain ⟨v1,hv1⟩:∃ v1:Nat,v1 = a.toNat - 192:=⟨_,rfl⟩
 have u1:v1 < 32:=by omega
 have hbb:=byte_lt b;have wb:wrap64 (b.toNat:Int) = b.toNat:=IntWalk.wrap64_in _ (by omega);obtain ⟨v2,hv2⟩:∃ v2:Nat,v2 = 64 * v1 + (b.toNat - 128):=⟨_,rfl⟩
 have hvn:64 * (a.toNat - 192) + (b.toNat - 128) = v2:=by rw [hv2,hv1]
 rw [hvn] at hW;have HW:=hide hW;clear hW hvn;have Cb:=hide (contB_iff b);have e1:(k:Int) + 1 < s.size:=by omega
 have z1:¬ (s.size:Int) < (k:Int) + 2:=by omega
 have a1:decide ((a.toNat:Int) < 128) = false:=decide_eq_false (by omega);have b0:decide ((192:Int) <= a.toNat) = true:=decide_eq_true (by omega);have c0:decide ((a.toNat:Int) < 224) = true:=decide_eq_true (by omega);have q1:(a.toNat:Int) - 192 = v1:=by omega
 have hv1':=hide hv1;clear hv1 h h';have HV2:=hide hv2;clear hv2;go_enter Tryz.func23,Tryz.ntmps23;go_wp2;go_loop [8,9] (fun v i=>(i = .int .i64 1 /\ v = .int .i64 v1) \/ (i = .int .i64 2 /\ v = .int .i64 v2 /\ contB b = true)) (fun _ i=>2 - (intOf i).toNat)
 case atStart=>exact .inl ⟨rfl,by first | rfl | (rw [q1])⟩
 case round =>
  rcases hrel with ⟨rfl,rfl⟩ | ⟨rfl,rfl,pb⟩
  ·have U1:=hide u1;clear u1
   by_cases p:contB b = true
   ·obtain ⟨t1,t2⟩:=contT p;have R1:=hide (vr HV2.out (Cb.out.1 p));obtain ⟨r2,r3,r4⟩:=vw (v:=v1) (d:=b.toNat) (Nat.lt_trans U1.out (by decide)) hbb;have PP:=hide p;clear p;go_wp2;go_round
    case rel=>exact .inr (⟨rfl,by first | rfl | (rw [R1.out]),PP.out⟩)
    case measure=>simp [intOf]
   ·have g:=contF p;have HZ:Hid (W = 0):=hide (by rw [HW.out];exact if_neg (fun q=>p q.1));clear p;rcases g with t1 | ⟨t1,t2⟩
    all_goals
     go_wp2;go_ret;exact ⟨ret_int (by rw [HZ.out];rfl),rfl⟩
  ·have U1:=hide u1;clear u1;have Pb:=hide pb;clear pb;have U2:Hid (v2 < 2048):=hide (vb HV2.out (Cb.out.1 Pb.out) U1.out)
   by_cases g1:v2 < 128
   ·have t1:decide ((v2:Int) < 128) = true:=ltTw g1;have HZ:Hid (W = 0):=hide (by rw [HW.out];exact if_neg (fun q=>absurd g1 (Nat.not_lt.2 q.2)));clear g1;go_wp2;go_ret;exact ⟨ret_int (by rw [HZ.out];rfl),rfl⟩
   have t1:decide ((v2:Int) < 128) = false:=ltF g1;have g2:¬ 1114111 < v2:=Nat.not_lt.2 (Nat.le_of_lt (Nat.lt_trans U2.out (by decide)));have t2:decide ((1114111:Int) < v2) = false:=ltF (v:=1114111) g2;have t3:decide ((55296:Int) <= v2) = false:=leF (v:=55296) (Nat.not_le.2 (Nat.lt_trans U2.out (by decide)));have HZ:Hid (W = 2):=hide (by rw [HW.out];exact if_pos ⟨Pb.out,Nat.not_lt.1 g1⟩);clear g1 g2;go_wp2;go_ret;exact ⟨ret_int (by rw [HZ.out];rfl),rfl⟩
end Go.Proofs.YtmgpmdfmkdhfgaaGreatDoor
