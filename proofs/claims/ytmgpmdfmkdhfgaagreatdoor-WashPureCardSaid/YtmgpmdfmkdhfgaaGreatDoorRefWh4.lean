import Derived.Test.YtmgpmdfmkdhfgaaGreatDoorRefWh0
namespace Go.Proofs.YtmgpmdfmkdhfgaaGreatDoor
open Go.RowKit
set_option linter.unusedVariables false
set_option linter.unusedSimpArgs false
set_option maxRecDepth 100000 in
set_option maxHeartbeats 4000000 in
theorem wholeS4 (s:ByteArray) (k:Nat) (w:World) (hs:s.size <= 70368744177664) (hk:k < s.size) (a:UInt8) (ha:s[k] = a) (h:240 <= a.toNat) (h':a.toNat < 248) (hz:s.size < k + 4) :
  Calls Tryz.prog 23 #[.string s,.int .i64 k] w fun e w'=>e = .returned (.int .i64 0) /\ w = w':=by
 have ba:=byte_lt a;have wa:wrap64 (a.toNat:Int) = a.toNat:=IntWalk.wrap64_in _ (by omega);have a1:decide ((a.toNat:Int) < 128) = false:=decide_eq_false (by omega);have b0:decide ((192:Int) <= a.toNat) = true:=decide_eq_true (by omega);have c0:decide ((a.toNat:Int) < 224) = false:=decide_eq_false (by omega);have b1:decide ((224:Int) <= a.toNat) = true:=decide_eq_true (by omega);have c1:decide ((a.toNat:Int) < 240) = false:=decide_eq_false (by omega);have b2:decide ((240:Int) <= a.toNat) = true:=decide_eq_true (by omega);have c2:decide ((a.toNat:Int) < 248) = true:=decide_eq_true (by omega);have z1:(s.size:Int) < (k:Int) + 4:=by omega
 have v1:IntKind.i64.wrap ((a.toNat:Int) - 240) = (a.toNat:Int) - 240:=IntWalk.i64_in _ (by omega);clear h h' hz;go_enter Tryz.func23,Tryz.ntmps23;go_wp2;go_ret;exact ⟨rfl,rfl⟩
set_option maxRecDepth 100000 in
set_option maxHeartbeats 4000000 in
theorem wholeL4 (s:ByteArray) (k:Nat) (w:World) (hs:s.size <= 70368744177664) (hk:k < s.size) (a:UInt8) (ha:s[k] = a) (h:240 <= a.toNat) (h':a.toNat < 248) (hz:k + 4 <= s.size) (b:UInt8) (hb:s[k + 1] = b) (c:UInt8) (hc:s[k + 2] = c) (d:UInt8) (hd:s[k + 3] = d) :
  Calls Tryz.prog 23 #[.string s,.int .i64 k] w fun e w'=>e = .returned (.int .i64 (wholeN (a :: b :: c :: d :: []):Nat)) /\ w = w':=by
 have ba:=byte_lt a;have wa:wrap64 (a.toNat:Int) = a.toNat:=IntWalk.wrap64_in _ (by omega);obtain ⟨W,hW⟩:∃ W,W = wholeN [a,b,c,d]:=⟨_,rfl⟩
 rw [<- hW];rw [w4 h h'] at hW;obtain ⟨v1,hv1⟩:∃ v1:Nat,v1 = a.toNat - 240:=⟨_,rfl⟩
 have u1:v1 < 8:=by omega
 have hbb:=byte_lt b;have wb:wrap64 (b.toNat:Int) = b.toNat:=IntWalk.wrap64_in _ (by omega);obtain ⟨v2,hv2⟩:∃ v2:Nat,v2 = 64 * v1 + (b.toNat - 128):=⟨_,rfl⟩
 have hbc:=byte_lt c;have wc:wrap64 (c.toNat:Int) = c.toNat:=IntWalk.wrap64_in _ (by omega);obtain ⟨v3,hv3⟩:∃ v3:Nat,v3 = 64 * v2 + (c.toNat - 128):=⟨_,rfl⟩
 have hbd:=byte_lt d;have wd:wrap64 (d.toNat:Int) = d.toNat:=IntWalk.wrap64_in _ (by omega);obtain ⟨v4,hv4⟩:∃ v4:Nat,v4 = 64 * v3 + (d.toNat - 128):=⟨_,rfl⟩
 have hvn:64 * (64 * (64 * (a.toNat - 240) + (b.toNat - 128)) + (c.toNat - 128)) + (d.toNat - 128) = v4:=by rw [hv4,hv3,hv2,hv1]
 rw [hvn] at hW;have HW:=hide hW;clear hW hvn;have Cb:=hide (contB_iff b);have Cc:=hide (contB_iff c);have Cd:=hide (contB_iff d);have e1:(k:Int) + 1 < s.size:=by omega
 have e2:(k:Int) + 2 < s.size:=by omega
 have e3:(k:Int) + 3 < s.size:=by omega
 have z1:¬ (s.size:Int) < (k:Int) + 4:=by omega
 have a1:decide ((a.toNat:Int) < 128) = false:=decide_eq_false (by omega);have b0:decide ((192:Int) <= a.toNat) = true:=decide_eq_true (by omega);have c0:decide ((a.toNat:Int) < 224) = false:=decide_eq_false (by omega);have b1:decide ((224:Int) <= a.toNat) = true:=decide_eq_true (by omega);have c1:decide ((a.toNat:Int) < 240) = false:=decide_eq_false (by omega);have b2:decide ((240:Int) <= a.toNat) = true:=decide_eq_true (by omega);have c2:decide ((a.toNat:Int) < 248) = true:=decide_eq_true (by omega);have q1:(a.toNat:Int) - 240 = v1:=by omega
 have hv1':=hide hv1;clear hv1 h h';have HV2:=hide hv2;clear hv2;have HV3:=hide hv3;clear hv3;have HV4:=hide hv4;clear hv4;go_enter Tryz.func23,Tryz.ntmps23;go_wp2;go_loop [8,9] (fun v i=>(i = .int .i64 1 /\ v = .int .i64 v1) \/ (i = .int .i64 2 /\ v = .int .i64 v2 /\ contB b = true) \/ (i = .int .i64 3 /\ v = .int .i64 v3 /\ contB b = true /\ contB c = true) \/ (i = .int .i64 4 /\ v = .int .i64 v4 /\ contB b = true /\ contB c = true /\ contB d = true)) (fun _ i=>4 - (intOf i).toNat)
 case atStart=>exact .inl ⟨rfl,by first | rfl | (rw [q1])⟩
 case round =>
  rcases hrel with ⟨rfl,rfl⟩ | ⟨rfl,rfl,pb⟩ | ⟨rfl,rfl,pb,pc⟩ | ⟨rfl,rfl,pb,pc,pd⟩
  ·have U1:=hide u1;clear u1
   by_cases p:contB b = true
   ·obtain ⟨t1,t2⟩:=contT p;have R1:=hide (vr HV2.out (Cb.out.1 p));obtain ⟨r2,r3,r4⟩:=vw (v:=v1) (d:=b.toNat) (Nat.lt_trans U1.out (by decide)) hbb;have PP:=hide p;clear p;go_wp2;go_round
    case rel=>exact .inr (.inl ⟨rfl,by first | rfl | (rw [R1.out]),PP.out⟩)
    case measure=>simp [intOf]
   ·have g:=contF p;have HZ:Hid (W = 0):=hide (by rw [HW.out];exact if_neg (fun q=>p q.1));clear p;rcases g with t1 | ⟨t1,t2⟩
    all_goals
     go_wp2;go_ret;exact ⟨ret_int (by rw [HZ.out];rfl),rfl⟩
  ·have U1:=hide u1;clear u1;have Pb:=hide pb;clear pb;have U2:Hid (v2 < 512):=hide (vb HV2.out (Cb.out.1 Pb.out) U1.out)
   by_cases p:contB c = true
   ·obtain ⟨t1,t2⟩:=contT p;have R1:=hide (vr HV3.out (Cc.out.1 p));obtain ⟨r2,r3,r4⟩:=vw (v:=v2) (d:=c.toNat) (Nat.lt_trans U2.out (by decide)) hbc;have PP:=hide p;clear p;go_wp2;go_round
    case rel=>exact .inr (.inr (.inl ⟨rfl,by first | rfl | (rw [R1.out]),Pb.out,PP.out⟩))
    case measure=>simp [intOf]
   ·have g:=contF p;have HZ:Hid (W = 0):=hide (by rw [HW.out];exact if_neg (fun q=>p q.2.1));clear p;rcases g with t1 | ⟨t1,t2⟩
    all_goals
     go_wp2;go_ret;exact ⟨ret_int (by rw [HZ.out];rfl),rfl⟩
  ·have U1:=hide u1;clear u1;have Pb:=hide pb;clear pb;have Pc:=hide pc;clear pc;have U2:Hid (v2 < 512):=hide (vb HV2.out (Cb.out.1 Pb.out) U1.out);have U3:Hid (v3 < 32768):=hide (vb HV3.out (Cc.out.1 Pc.out) U2.out)
   by_cases p:contB d = true
   ·obtain ⟨t1,t2⟩:=contT p;have R1:=hide (vr HV4.out (Cd.out.1 p));obtain ⟨r2,r3,r4⟩:=vw (v:=v3) (d:=d.toNat) (Nat.lt_trans U3.out (by decide)) hbd;have PP:=hide p;clear p;go_wp2;go_round
    case rel=>exact .inr (.inr (.inr (⟨rfl,by first | rfl | (rw [R1.out]),Pb.out,Pc.out,PP.out⟩)))
    case measure=>simp [intOf]
   ·have g:=contF p;have HZ:Hid (W = 0):=hide (by rw [HW.out];exact if_neg (fun q=>p q.2.2.1));clear p;rcases g with t1 | ⟨t1,t2⟩
    all_goals
     go_wp2;go_ret;exact ⟨ret_int (by rw [HZ.out];rfl),rfl⟩
  ·have U1:=hide u1;clear u1;have Pb:=hide pb;clear pb;have Pc:=hide pc;clear pc;have Pd:=hide pd;clear pd;have U2:Hid (v2 < 512):=hide (vb HV2.out (Cb.out.1 Pb.out) U1.out);have U3:Hid (v3 < 32768):=hide (vb HV3.out (Cc.out.1 Pc.out) U2.out);have U4:Hid (v4 < 2097152):=hide (vb HV4.out (Cd.out.1 Pd.out) U3.out)
   by_cases g1:v4 < 65536
   ·have t1:decide ((v4:Int) < 65536) = true:=ltTw g1;have HZ:Hid (W = 0):=hide (by rw [HW.out];exact if_neg (fun q=>absurd g1 (Nat.not_lt.2 q.2.2.2.1)));clear g1;go_wp2;go_ret;exact ⟨ret_int (by rw [HZ.out];rfl),rfl⟩
   have t1:decide ((v4:Int) < 65536) = false:=ltF g1
   by_cases g2:1114111 < v4
   ·have t2:decide ((1114111:Int) < v4) = true:=ltTw (v:=1114111) g2;have HZ:Hid (W = 0):=hide (by rw [HW.out];exact if_neg (fun q=>absurd g2 (Nat.not_lt.2 q.2.2.2.2)));clear g1 g2;go_wp2;go_ret;exact ⟨ret_int (by rw [HZ.out];rfl),rfl⟩
   have t2:decide ((1114111:Int) < v4) = false:=ltF (v:=1114111) g2;have t3:decide ((55296:Int) <= v4) = true:=leT (v:=55296) (Nat.le_trans (by decide) (Nat.not_lt.1 g1));have t4:decide ((v4:Int) <= 57343) = false:=leF (Nat.not_le.2 (Nat.lt_of_lt_of_le (by decide) (Nat.not_lt.1 g1)));have HZ:Hid (W = 4):=hide (by rw [HW.out];exact if_pos ⟨Pb.out,Pc.out,Pd.out,Nat.not_lt.1 g1,Nat.not_lt.1 g2⟩);clear g1 g2;go_wp2;go_ret;exact ⟨ret_int (by rw [HZ.out];rfl),rfl⟩
end Go.Proofs.YtmgpmdfmkdhfgaaGreatDoor
