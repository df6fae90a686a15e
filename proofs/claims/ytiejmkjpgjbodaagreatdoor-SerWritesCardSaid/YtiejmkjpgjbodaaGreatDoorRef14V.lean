import Derived.Test.YtiejmkjpgjbodaaGreatDoorBaseP
namespace Go.Proofs.YtiejmkjpgjbodaaGreatDoor
open Go.RowKit
set_option linter.unusedVariables false
set_option linter.unusedSimpArgs false
set_option maxRecDepth 100000
set_option maxHeartbeats 8000000 in
theorem rwall14_any (n:ByteArray) (w:World):Calls Tryz.prog 95 #[.string n] w fun e w'=>e = .returned (.bool (wallL.contains n.data.toList)) /\ w = w':=by
 cases hk:wallL.contains n.data.toList with
 | true =>
  have hc:n.data.toList = [116,97,98,108,101] \/ n.data.toList = [98,117,116,116,111,110] \/ n.data.toList = [117,108] \/ n.data.toList = [111,108] \/ n.data.toList = [100,108] \/ n.data.toList = [115,118,103] \/ n.data.toList = [109,97,116,104] \/ n.data.toList = [116,101,109,112,108,97,116,101] \/ n.data.toList = [111,98,106,101,99,116] \/ n.data.toList = [97,112,112,108,101,116] \/ n.data.toList = [109,97,114,113,117,101,101]:=by simpa [wallL] using hk
  clear hk;rcases hc with h | h | h | h | h | h | h | h | h | h | h
  iterate 11
   ·obtain rfl:=ext_lit h;clear h;go_enter Tryz.func95,Tryz.ntmps95;go_wp2_with fail;go_ret;exact ⟨rfl,rfl⟩
 | false =>
  have hc:n.data.toList ≠ [116,97,98,108,101] /\ n.data.toList ≠ [98,117,116,116,111,110] /\ n.data.toList ≠ [117,108] /\ n.data.toList ≠ [111,108] /\ n.data.toList ≠ [100,108] /\ n.data.toList ≠ [115,118,103] /\ n.data.toList ≠ [109,97,116,104] /\ n.data.toList ≠ [116,101,109,112,108,97,116,101] /\ n.data.toList ≠ [111,98,106,101,99,116] /\ n.data.toList ≠ [97,112,112,108,101,116] /\ n.data.toList ≠ [109,97,114,113,117,101,101]:=by simpa [wallL] using hk
  clear hk;obtain ⟨tn0,tn1,tn2,tn3,tn4,tn5,tn6,tn7,tn8,tn9,tn10⟩:=hc;have t0:=nb_lit tn0;have t1:=nb_lit tn1;have t2:=nb_lit tn2;have t3:=nb_lit tn3;have t4:=nb_lit tn4;have t5:=nb_lit tn5;have t6:=nb_lit tn6;have t7:=nb_lit tn7;have t8:=nb_lit tn8;have t9:=nb_lit tn9;have t10:=nb_lit tn10;clear tn0 tn1 tn2 tn3 tn4 tn5 tn6 tn7 tn8 tn9 tn10;go_enter Tryz.func95,Tryz.ntmps95;go_wp2_with fail;go_ret;exact ⟨rfl,rfl⟩
end Go.Proofs.YtiejmkjpgjbodaaGreatDoor
