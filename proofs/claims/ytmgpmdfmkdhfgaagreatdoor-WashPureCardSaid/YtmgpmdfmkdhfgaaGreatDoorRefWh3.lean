import Derived.Test.YtmgpmdfmkdhfgaaGreatDoorRefWh0
namespace Go.Proofs.YtmgpmdfmkdhfgaaGreatDoor
open Go.RowKit
set_option linter.unusedVariables false
set_option linter.unusedSimpArgs false
set_option maxRecDepth 100000 in
set_option maxHeartbeats 4000000 in
theorem wholeS3 (s:ByteArray) (k:Nat) (w:World) (hs:s.size <= 70368744177664) (hk:k < s.size) (a:UInt8) (ha:s[k] = a) (h:224 <= a.toNat) (h':a.toNat < 240) (hz:s.size < k + 3) :
  Calls Tryz.prog 23 #[.string s,.int .i64 k] w fun e w'=>e = .returned (.int .i64 0) /\ w = w':=by
 have ba:=byte_lt a;have wa:wrap64 (a.toNat:Int) = a.toNat:=IntWalk.wrap64_in _ (by omega);have a1:decide ((a.toNat:Int) < 128) = false:=decide_eq_false (by omega);have b0:decide ((192:Int) <= a.toNat) = true:=decide_eq_true (by omega);have c0:decide ((a.toNat:Int) < 224) = false:=decide_eq_false (by omega);have b1:decide ((224:Int) <= a.toNat) = true:=decide_eq_true (by omega);have c1:decide ((a.toNat:Int) < 240) = true:=decide_eq_true (by omega);have z1:(s.size:Int) < (k:Int) + 3:=by omega
 have v1:IntKind.i64.wrap ((a.toNat:Int) - 224) = (a.toNat:Int) - 224:=IntWalk.i64_in _ (by omega);clear h h' hz;go_enter Tryz.func23,Tryz.ntmps23;go_wp2;go_ret;exact ⟨rfl,rfl⟩
set_option maxRecDepth 100000 in
set_option maxHeartbeats 4000000 in
theorem wholeL3 (s:ByteArray) (k:Nat) (w:World) (hs:s.size <= 70368744177664) (hk:k < s.size) (a:UInt8) (ha:s[k] = a) (h:224 <= a.toNat) (h':a.toNat < 240) (hz:k + 3 <= s.size) (b:UInt8) (hb:s[k + 1] = b) (c:UInt8) (hc:s[k + 2] = c) :
  Calls Tryz.prog 23 #[.string s,.int .i64 k] w fun e w'=>e = .returned (.int .i64 (wholeN (a :: b :: c :: []):Nat)) /\ w = w':=by
 have ba:=byte_lt a;have wa:wrap64 (a.toNat:Int) = a.toNat:=IntWalk.wrap64_in _ (by omega);obtain ⟨W,hW⟩:∃ W,W = wholeN [a,b,c]:=⟨_,rfl⟩
 rw [<- hW];rw [w3 h h'] at hW;obtain ⟨v1,hv1⟩:∃ v1:Nat,v1 = a.toNat - 224:=⟨_,rfl⟩
 have u1:v1 < 16:=by omega
 have hbb:=byte_lt b;have wb:wrap64 (b.toNat:Int) = b.toNat:=IntWalk.wrap64_in _ (by omega);obtain ⟨v2,hv2⟩:∃ v2:Nat,v2 = 64 * v1 + (b.toNat - 128):=⟨_,rfl⟩
 have hbc:=byte_lt c;have wc:wrap64 (c.toNat:Int) = c.toNat:=IntWalk.wrap64_in _ (by omega);obtain ⟨v3,hv3⟩:∃ v3:Nat,v3 = 64 * v2 + (c.toNat - 128):=⟨_,rfl⟩
 have hvn:64 * (64 * (a.toNat - 224) + (b.toNat - 128)) + (c.toNat - 128) = v3:=by rw [hv3,hv2,hv1]
 rw [hvn] at hW;have HW:=hide hW;clear hW hvn;have Cb:=hide (contB_iff b);have Cc:=hide (contB_iff c);have e1:(k:Int) + 1 < s.size:=by omega
 have e2:(k:Int) + 2 < s.size:=by omega
 have z1:¬ (s.size:Int) < (k:Int) + 3:=by omega
 have a1:decide ((a.toNat:Int) < 128) = false:=decide_eq_false (by omega);have b0:decide ((192:Int) <= a.toNat) = true:=decide_eq_true (by omega);have c0:decide ((a.toNat:Int) < 224) = false:=decide_eq_false (by omega);have b1:decide ((224:Int) <= a.toNat) = true:=decide_eq_true (by omega);have c1:decide ((a.toNat:Int) < 240) = true:=decide_eq_true (by omega);have q1:(a.toNat:Int) - 224 = v1:=by omega
 have hv1':=hide hv1;clear hv1 h h';have HV2:=hide hv2;clear hv2;have HV3:=hide hv3;clear hv3;go_enter Tryz.func23,Tryz.ntmps23;go_wp2;go_loop [8,9] (fun v i=>(i = .int .i64 1 /\ v = .int .i64 v1) \/ (i = .int .i64 2 /\ v = .int .i64 v2 /\ contB b = true) \/ (i = .int .i64 3 /\ v = .int .i64 v3 /\ contB b = true /\ contB c = true)) (fun _ i=>3 - (intOf i).toNat)
 case atStart=>exact .inl ⟨rfl,by first | rfl | (rw [q1])⟩
 case round =>
  rcases hrel with ⟨rfl,rfl⟩ | ⟨rfl,rfl,pb⟩ | ⟨rfl,rfl,pb,pc⟩
  ·have U1:=hide u1;clear u1
   by_cases p:contB b = true
   ·obtain ⟨t1,t2⟩:=contT p;have R1:=hide (vr HV2.out (Cb.out.1 p));obtain ⟨r2,r3,r4⟩:=vw (v:=v1) (d:=b.toNat) (Nat.lt_trans U1.out (by decide)) hbb;have PP:=hide p;clear p;go_wp2;go_round
    case rel=>exact .inr (.inl ⟨rfl,by first | rfl | (rw [R1.out]),PP.out⟩)
    case measure=>simp [intOf]
   ·have g:=contF p;have HZ:Hid (W = 0):=hide (by rw [HW.out];exact if_neg (fun q=>p q.1));clear p;rcases g with t1 | ⟨t1,t2⟩
    all_goals
     go_wp2;go_ret;exact ⟨ret_int (by rw [HZ.out];rfl),rfl⟩
  ·have U1:=hide u1;clear u1;have Pb:=hide pb;clear pb;have U2:Hid (v2 < 1024):=hide (vb HV2.out (Cb.out.1 Pb.out) U1.out)
   by_cases p:contB c = true
   ·obtain ⟨t1,t2⟩:=contT p;have R1:=hide (vr HV3.out (Cc.out.1 p));obtain ⟨r2,r3,r4⟩:=vw (v:=v2) (d:=c.toNat) (Nat.lt_trans U2.out (by decide)) hbc;have PP:=hide p;clear p;go_wp2;go_round
    case rel=>exact .inr (.inr (⟨rfl,by first | rfl | (rw [R1.out]),Pb.out,PP.out⟩))
    case measure=>simp [intOf]
   ·have g:=contF p;have HZ:Hid (W = 0):=hide (by rw [HW.out];exact if_neg (fun q=>p q.2.1));clear p;rcases g with t1 | ⟨t1,t2⟩
    all_goals
     go_wp2;go_ret;exact ⟨ret_int (by rw [HZ.out];rfl),rfl⟩
  ·have U1:=hide u1;clear u1;have Pb:=hide pb;clear pb;have Pc:=hide pc;clear pc;have U2:Hid (v2 < 1024):=hide (vb HV2.out (Cb.out.1 Pb.out) U1.out);have U3:Hid (v3 < 65536):=hide (vb HV3.out (Cc.out.1 Pc.out) U2.out)
   by_cases g1:v3 < 2048
   ·have t1:decide ((v3:Int) < 2048) = true:=ltTw g1;have HZ:Hid (W = 0):=hide (by rw [HW.out];exact if_neg (fun q=>absurd g1 (Nat.not_lt.2 q.2.2.1)));clear g1;go_wp2;go_ret;exact ⟨ret_int (by rw [HZ.out];rfl),rfl⟩
   have t1:decide ((v3:Int) < 2048) = false:=ltF g1;have g2:¬ 1114111 < v3:=Nat.not_lt.2 (Nat.le_of_lt (Nat.lt_trans U3.out (by decide)));have t2:decide ((1114111:Int) < v3) = false:=ltF (v:=1114111) g2;have g3:=surT v3;have G1:=hide g1;clear g1 g2;rcases g3 with t3 | ⟨t3,⟨g5,g6,t4⟩ | ⟨g5,t4⟩⟩
   ·have HZ:Hid (W = 3):=hide (by rw [HW.out];exact if_pos ⟨Pb.out,Pc.out,Nat.not_lt.1 G1.out,fun h=>by have:=of_decide_eq_false t3;omega⟩);go_wp2;go_ret;exact ⟨ret_int (by rw [HZ.out];rfl),rfl⟩
   ·have HZ:Hid (W = 0):=hide (by rw [HW.out];exact if_neg (fun q=>q.2.2.2 ⟨g5,g6⟩));clear g5 g6;go_wp2;go_ret;exact ⟨ret_int (by rw [HZ.out];rfl),rfl⟩
   ·have HZ:Hid (W = 3):=hide (by rw [HW.out];exact if_pos ⟨Pb.out,Pc.out,Nat.not_lt.1 G1.out,g5⟩);clear g5;go_wp2;go_ret;exact ⟨ret_int (by rw [HZ.out];rfl),rfl⟩
end Go.Proofs.YtmgpmdfmkdhfgaaGreatDoor
