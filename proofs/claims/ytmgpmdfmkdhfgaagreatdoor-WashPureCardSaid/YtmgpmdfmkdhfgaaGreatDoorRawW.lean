import Derived.Test.YtmgpmdfmkdhfgaaGreatDoorBaseN
namespace Go.Proofs.YtmgpmdfmkdhfgaaGreatDoor
open Go.RowKit
set_option linter.unusedVariables false
set_option linter.unusedSimpArgs false
set_option maxRecDepth 100000
set_option maxHeartbeats 4000000 in
theorem rawW_any (n:ByteArray) (w:World) :
  Calls Tryz.prog 24 #[.string n] w fun e w'=>e = .returned (.bool (rawL.contains n.data.toList)) /\ w = w':=by
 cases hk:rawL.contains n.data.toList with
 | true =>
  rcases rawL_cases _ hk with h | h | h | h | h | h | h | h | h | h
  iterate 10
   ·obtain rfl:=ext_lit h;clear hk h;go_enter Tryz.func24,Tryz.ntmps24;go_wp2_with fail;go_ret;exact ⟨rfl,rfl⟩
 | false =>
  obtain ⟨n0,n1,n2,n3,n4,n5,n6,n7,n8,n9⟩:=rawL_none _ hk;have t0:=nb_lit n0;have t1:=nb_lit n1;have t2:=nb_lit n2;have t3:=nb_lit n3;have t4:=nb_lit n4;have t5:=nb_lit n5;have t6:=nb_lit n6;have t7:=nb_lit n7;have t8:=nb_lit n8;have t9:=nb_lit n9;clear hk n0 n1 n2 n3 n4 n5 n6 n7 n8 n9;go_enter Tryz.func24,Tryz.ntmps24;go_wp2_with fail;go_ret;exact ⟨rfl,rfl⟩
end Go.Proofs.YtmgpmdfmkdhfgaaGreatDoor
