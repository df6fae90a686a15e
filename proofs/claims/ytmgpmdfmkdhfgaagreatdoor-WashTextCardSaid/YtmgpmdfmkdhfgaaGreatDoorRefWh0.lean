import Derived.Test.YtmgpmdfmkdhfgaaGreatDoorBaseN
namespace Go.Proofs.YtmgpmdfmkdhfgaaGreatDoor
open Go.RowKit
set_option linter.unusedVariables false
set_option linter.unusedSimpArgs false
theorem vb {v w d B:Nat} (h:w = 64 * v + (d - 128)) (g:128 <= d /\ d <= 191) (u:v < B):w < 64 * B:=by omega
theorem vr {v w d:Nat} (h:w = 64 * v + (d - 128)) (g:128 <= d /\ d <= 191):64 * (v:Int) + d - 128 = w:=by omega
theorem vw {v d:Nat} (u:v < 100000000) (hd:d < 256):IntKind.i64.wrap (64 * (v:Int)) = 64 * (v:Int) /\ IntKind.i64.wrap (64 * (v:Int) + d) = 64 * (v:Int) + d /\ IntKind.i64.wrap (64 * (v:Int) + d - 128) = 64 * (v:Int) + d - 128 :=
 ⟨IntWalk.i64_in _ (by omega),IntWalk.i64_in _ (by omega),IntWalk.i64_in _ (by omega)⟩
theorem contT {c:UInt8} (p:contB c = true):decide ((c.toNat:Int) < 128) = false /\ decide ((191:Int) < c.toNat) = false:=by
 have:=(contB_iff c).1 p;exact ⟨decide_eq_false (by omega),decide_eq_false (by omega)⟩
theorem contF {c:UInt8} (p:¬ contB c = true):decide ((c.toNat:Int) < 128) = true \/ (decide ((c.toNat:Int) < 128) = false /\ decide ((191:Int) < c.toNat) = true):=by
 by_cases g:c.toNat < 128
 ·exact .inl (decide_eq_true (by omega))
 ·refine .inr ⟨decide_eq_false (by omega),decide_eq_true ?_⟩
  by_cases g2:c.toNat <= 191
  ·exact absurd ((contB_iff c).2 ⟨by omega,g2⟩) p
  ·omega
theorem ltTw {v l:Nat} (h:v < l):decide ((v:Int) < (l:Int)) = true:=decide_eq_true (by omega)
theorem ltF {v l:Nat} (h:¬ v < l):decide ((v:Int) < (l:Int)) = false:=decide_eq_false (by omega)
theorem leT {v l:Nat} (h:v <= l):decide ((v:Int) <= (l:Int)) = true:=decide_eq_true (by omega)
theorem leF {v l:Nat} (h:¬ v <= l):decide ((v:Int) <= (l:Int)) = false:=decide_eq_false (by omega)
theorem surT (v:Nat):decide ((55296:Int) <= v) = false \/ (decide ((55296:Int) <= v) = true /\ ((55296 <= v /\ v <= 57343 /\ decide ((v:Int) <= 57343) = true) \/ (¬ (55296 <= v /\ v <= 57343) /\ decide ((v:Int) <= 57343) = false))):=by
 by_cases g:55296 <= v
 ·refine .inr ⟨decide_eq_true (by omega),?_⟩
  by_cases g2:v <= 57343
  ·exact .inl ⟨g,g2,decide_eq_true (by omega)⟩
  ·exact .inr ⟨fun h=>g2 h.2,decide_eq_false (by omega)⟩
 ·exact .inl (decide_eq_false (by omega))
set_option maxRecDepth 100000 in
set_option maxHeartbeats 4000000 in
theorem whole1 (s:ByteArray) (k:Nat) (w:World) (hs:s.size <= 70368744177664) (hk:k < s.size) (a:UInt8) (ha:s[k] = a) (h:a.toNat < 128) :
  Calls Tryz.prog 23 #[.string s,.int .i64 k] w fun e w'=>e = .returned (.int .i64 1) /\ w = w':=by
 have ba:=byte_lt a;have wa:wrap64 (a.toNat:Int) = a.toNat:=IntWalk.wrap64_in _ (by omega);have a1:decide ((a.toNat:Int) < 128) = true:=decide_eq_true (by omega);clear h;go_enter Tryz.func23,Tryz.ntmps23;go_wp2;go_ret;exact ⟨rfl,rfl⟩
set_option maxRecDepth 100000 in
set_option maxHeartbeats 4000000 in
theorem whole0 (s:ByteArray) (k:Nat) (w:World) (hs:s.size <= 70368744177664) (hk:k < s.size) (a:UInt8) (ha:s[k] = a) (h:128 <= a.toNat) (h':a.toNat < 192 \/ 248 <= a.toNat) :
  Calls Tryz.prog 23 #[.string s,.int .i64 k] w fun e w'=>e = .returned (.int .i64 0) /\ w = w':=by
 have ba:=byte_lt a;have wa:wrap64 (a.toNat:Int) = a.toNat:=IntWalk.wrap64_in _ (by omega);have a1:decide ((a.toNat:Int) < 128) = false:=decide_eq_false (by omega);rcases h' with h' | h'
 ·have b0:decide ((192:Int) <= a.toNat) = false:=decide_eq_false (by omega);have b1:decide ((224:Int) <= a.toNat) = false:=decide_eq_false (by omega);have b2:decide ((240:Int) <= a.toNat) = false:=decide_eq_false (by omega);clear h h';go_enter Tryz.func23,Tryz.ntmps23;go_wp2;go_ret;exact ⟨rfl,rfl⟩
 ·have b0:decide ((192:Int) <= a.toNat) = true:=decide_eq_true (by omega);have b1:decide ((224:Int) <= a.toNat) = true:=decide_eq_true (by omega);have b2:decide ((240:Int) <= a.toNat) = true:=decide_eq_true (by omega);have c0:decide ((a.toNat:Int) < 224) = false:=decide_eq_false (by omega);have c1:decide ((a.toNat:Int) < 240) = false:=decide_eq_false (by omega);have c2:decide ((a.toNat:Int) < 248) = false:=decide_eq_false (by omega);clear h h';go_enter Tryz.func23,Tryz.ntmps23;go_wp2;go_ret;exact ⟨rfl,rfl⟩
end Go.Proofs.YtmgpmdfmkdhfgaaGreatDoor
