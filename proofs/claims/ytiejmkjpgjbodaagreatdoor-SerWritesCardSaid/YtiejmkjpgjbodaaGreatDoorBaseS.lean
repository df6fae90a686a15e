/- More of the first texts of this claim in one: each with its own head. No statement is proved here. -/
import Derived.Test.YtiejmkjpgjbodaaGreatDoorBaseP
import Derived.Test.YtiejmkjpgjbodaaGreatDoorBaseN
import Derived.Test.YtiejmkjpgjbodaaGreatDoorBaseR
namespace Go.Proofs.YtiejmkjpgjbodaaGreatDoor
open Go.RowKit
set_option linter.unusedVariables false
set_option linter.unusedSimpArgs false
set_option maxRecDepth 100000
set_option maxHeartbeats 16000000
theorem rvoid14_any (n:ByteArray) (w:World):Calls Tryz.prog 60 #[.string n] w fun e w'=>e = .returned (.bool (voidL.contains n.data.toList)) /\ w = w':=by
 cases hk:voidL.contains n.data.toList with
 | true =>
  have hc:n.data.toList = [97,114,101,97] \/ n.data.toList = [98,97,115,101] \/ n.data.toList = [98,114] \/ n.data.toList = [99,111,108] \/ n.data.toList = [101,109,98,101,100] \/ n.data.toList = [104,114] \/ n.data.toList = [105,109,103] \/ n.data.toList = [105,110,112,117,116] \/ n.data.toList = [108,105,110,107] \/ n.data.toList = [109,101,116,97] \/ n.data.toList = [115,111,117,114,99,101] \/ n.data.toList = [116,114,97,99,107] \/ n.data.toList = [119,98,114]:=by simpa [voidL] using hk
  clear hk;rcases hc with h | h | h | h | h | h | h | h | h | h | h | h | h
  iterate 13
   ·obtain rfl:=ext_lit h;clear h;go_enter Tryz.func60,Tryz.ntmps60;go_wp2_with fail;go_ret;exact ⟨rfl,rfl⟩
 | false =>
  have hc:n.data.toList ≠ [97,114,101,97] /\ n.data.toList ≠ [98,97,115,101] /\ n.data.toList ≠ [98,114] /\ n.data.toList ≠ [99,111,108] /\ n.data.toList ≠ [101,109,98,101,100] /\ n.data.toList ≠ [104,114] /\ n.data.toList ≠ [105,109,103] /\ n.data.toList ≠ [105,110,112,117,116] /\ n.data.toList ≠ [108,105,110,107] /\ n.data.toList ≠ [109,101,116,97] /\ n.data.toList ≠ [115,111,117,114,99,101] /\ n.data.toList ≠ [116,114,97,99,107] /\ n.data.toList ≠ [119,98,114]:=by simpa [voidL] using hk
  clear hk;obtain ⟨tn0,tn1,tn2,tn3,tn4,tn5,tn6,tn7,tn8,tn9,tn10,tn11,tn12⟩:=hc;have t0:=nb_lit tn0;have t1:=nb_lit tn1;have t2:=nb_lit tn2;have t3:=nb_lit tn3;have t4:=nb_lit tn4;have t5:=nb_lit tn5;have t6:=nb_lit tn6;have t7:=nb_lit tn7;have t8:=nb_lit tn8;have t9:=nb_lit tn9;have t10:=nb_lit tn10;have t11:=nb_lit tn11;have t12:=nb_lit tn12;clear tn0 tn1 tn2 tn3 tn4 tn5 tn6 tn7 tn8 tn9 tn10 tn11 tn12;go_enter Tryz.func60,Tryz.ntmps60;go_wp2_with fail;go_ret;exact ⟨rfl,rfl⟩
theorem rblock14_any (n:ByteArray) (w:World):Calls Tryz.prog 161 #[.string n] w fun e w'=>e = .returned (.bool (blockNL.contains n.data.toList)) /\ w = w':=by
 cases hk:blockNL.contains n.data.toList with
 | true =>
  have hc:n.data.toList = [97,100,100,114,101,115,115] \/ n.data.toList = [97,114,116,105,99,108,101] \/ n.data.toList = [97,115,105,100,101] \/ n.data.toList = [98,108,111,99,107,113,117,111,116,101] \/ n.data.toList = [99,101,110,116,101,114] \/ n.data.toList = [100,101,116,97,105,108,115] \/ n.data.toList = [100,105,118] \/ n.data.toList = [100,108] \/ n.data.toList = [102,105,101,108,100,115,101,116] \/ n.data.toList = [102,105,103,117,114,101] \/ n.data.toList = [102,111,111,116,101,114] \/ n.data.toList = [102,111,114,109] \/ n.data.toList = [104,101,97,100,101,114] \/ n.data.toList = [104,114] \/ n.data.toList = [108,105] \/ n.data.toList = [109,97,105,110] \/ n.data.toList = [110,97,118] \/ n.data.toList = [111,108] \/ n.data.toList = [112] \/ n.data.toList = [112,114,101] \/ n.data.toList = [115,101,99,116,105,111,110] \/ n.data.toList = [116,97,98,108,101] \/ n.data.toList = [117,108] \/ n.data.toList = [100,100] \/ n.data.toList = [100,116] \/ n.data.toList = [104,49] \/ n.data.toList = [104,50] \/ n.data.toList = [104,51] \/ n.data.toList = [104,52] \/ n.data.toList = [104,53] \/ n.data.toList = [104,54]:=by simpa [blockNL] using hk
  clear hk;rcases hc with h | h | h | h | h | h | h | h | h | h | h | h | h | h | h | h | h | h | h | h | h | h | h | h | h | h | h | h | h | h | h
  iterate 31
   ·obtain rfl:=ext_lit h;clear h;go_enter Tryz.func161,Tryz.ntmps161;go_wp2_with fail;go_ret;exact ⟨rfl,rfl⟩
 | false =>
  have hc:n.data.toList ≠ [97,100,100,114,101,115,115] /\ n.data.toList ≠ [97,114,116,105,99,108,101] /\ n.data.toList ≠ [97,115,105,100,101] /\ n.data.toList ≠ [98,108,111,99,107,113,117,111,116,101] /\ n.data.toList ≠ [99,101,110,116,101,114] /\ n.data.toList ≠ [100,101,116,97,105,108,115] /\ n.data.toList ≠ [100,105,118] /\ n.data.toList ≠ [100,108] /\ n.data.toList ≠ [102,105,101,108,100,115,101,116] /\ n.data.toList ≠ [102,105,103,117,114,101] /\ n.data.toList ≠ [102,111,111,116,101,114] /\ n.data.toList ≠ [102,111,114,109] /\ n.data.toList ≠ [104,101,97,100,101,114] /\ n.data.toList ≠ [104,114] /\ n.data.toList ≠ [108,105] /\ n.data.toList ≠ [109,97,105,110] /\ n.data.toList ≠ [110,97,118] /\ n.data.toList ≠ [111,108] /\ n.data.toList ≠ [112] /\ n.data.toList ≠ [112,114,101] /\ n.data.toList ≠ [115,101,99,116,105,111,110] /\ n.data.toList ≠ [116,97,98,108,101] /\ n.data.toList ≠ [117,108] /\ n.data.toList ≠ [100,100] /\ n.data.toList ≠ [100,116] /\ n.data.toList ≠ [104,49] /\ n.data.toList ≠ [104,50] /\ n.data.toList ≠ [104,51] /\ n.data.toList ≠ [104,52] /\ n.data.toList ≠ [104,53] /\ n.data.toList ≠ [104,54]:=by simpa [blockNL] using hk
  clear hk;obtain ⟨tn0,tn1,tn2,tn3,tn4,tn5,tn6,tn7,tn8,tn9,tn10,tn11,tn12,tn13,tn14,tn15,tn16,tn17,tn18,tn19,tn20,tn21,tn22,tn23,tn24,tn25,tn26,tn27,tn28,tn29,tn30⟩:=hc;have t0:=nb_lit tn0;have t1:=nb_lit tn1;have t2:=nb_lit tn2;have t3:=nb_lit tn3;have t4:=nb_lit tn4;have t5:=nb_lit tn5;have t6:=nb_lit tn6;have t7:=nb_lit tn7;have t8:=nb_lit tn8;have t9:=nb_lit tn9;have t10:=nb_lit tn10;have t11:=nb_lit tn11;have t12:=nb_lit tn12;have t13:=nb_lit tn13;have t14:=nb_lit tn14;have t15:=nb_lit tn15;have t16:=nb_lit tn16;have t17:=nb_lit tn17;have t18:=nb_lit tn18;have t19:=nb_lit tn19;have t20:=nb_lit tn20;have t21:=nb_lit tn21;have t22:=nb_lit tn22;have t23:=nb_lit tn23;have t24:=nb_lit tn24;have t25:=nb_lit tn25;have t26:=nb_lit tn26;have t27:=nb_lit tn27;have t28:=nb_lit tn28;have t29:=nb_lit tn29;have t30:=nb_lit tn30;clear tn0 tn1 tn2 tn3 tn4 tn5 tn6 tn7 tn8 tn9 tn10 tn11 tn12 tn13 tn14 tn15 tn16 tn17 tn18 tn19 tn20 tn21 tn22 tn23 tn24 tn25 tn26 tn27 tn28 tn29 tn30;go_enter Tryz.func161,Tryz.ntmps161;go_wp2_with fail;go_ret;exact ⟨rfl,rfl⟩
theorem rhead14_any (n:ByteArray) (w:World):Calls Tryz.prog 162 #[.string n] w fun e w'=>e = .returned (.bool (headNL.contains n.data.toList)) /\ w = w':=by
 cases hk:headNL.contains n.data.toList with
 | true =>
  have hc:n.data.toList = [104,49] \/ n.data.toList = [104,50] \/ n.data.toList = [104,51] \/ n.data.toList = [104,52] \/ n.data.toList = [104,53] \/ n.data.toList = [104,54]:=by simpa [headNL] using hk
  clear hk;rcases hc with h | h | h | h | h | h
  iterate 6
   ·obtain rfl:=ext_lit h;clear h;go_enter Tryz.func162,Tryz.ntmps162;go_wp2_with fail;go_ret;exact ⟨rfl,rfl⟩
 | false =>
  by_cases hz:n.size = 2
  ·have z0:0 < n.size:=by omega
   have z1:1 < n.size:=by omega
   have hk2:headNL.contains [n[0],n[1]] = false:=by
    have e:n.data.toList = [n[0],n[1]]:=by
     have:=drop_cons n 0 z0;rw [List.drop_zero] at this;rw [this,drop_cons n 1 z1,drop_nil n 2 (by omega)]
    rw [<- e];exact hk
   have tz:((n.size:Int) == 2) = true:=by rw [beq_iff_eq];omega
   clear hk hz
   by_cases ha:n[0] = 104
   ·have t0:((n[0].toNat:Int) == 104) = true:=tT 104 ha (by omega)
    by_cases h1:n[1].toNat < 49
    ·have t1:decide ((49:Int) <= (n[1].toNat:Int)) = false:=decide_eq_false (by omega);clear hk2 h1 ha;go_enter Tryz.func162,Tryz.ntmps162;go_wp2_with fail;go_ret;exact ⟨rfl,rfl⟩
    ·have t1:decide ((49:Int) <= (n[1].toNat:Int)) = true:=decide_eq_true (by omega)
     have h2:54 < n[1].toNat:=by
      refine Decidable.byContradiction fun h2=>?_
      have hb:=(u8_all (p:=fun b=>49 <= b.toNat -> b.toNat <= 54 -> headNL.contains [104,b] = true) (by decide +kernel) n[1]) (by omega) (by omega)
      rw [ha,hb] at hk2;cases hk2
     have t2:decide ((n[1].toNat:Int) <= 54) = false:=decide_eq_false (by omega);clear hk2 h1 h2 ha;go_enter Tryz.func162,Tryz.ntmps162;go_wp2_with fail;go_ret;exact ⟨rfl,rfl⟩
   ·have t0:((n[0].toNat:Int) == 104) = false:=tF 104 ha (by omega);clear hk2 ha;go_enter Tryz.func162,Tryz.ntmps162;go_wp2_with fail;go_ret;exact ⟨rfl,rfl⟩
  ·have t0:((n.size:Int) == 2) = false:=beq_eq_false_iff_ne.2 (by omega);clear hk hz;go_enter Tryz.func162,Tryz.ntmps162;go_wp2_with fail;go_ret;exact ⟨rfl,rfl⟩
theorem rcloses14_pure (n o:List UInt8) (h:o ≠ [112] /\ o ≠ [100,100] /\ o ≠ [100,116] /\ o ≠ [116,100] /\ o ≠ [116,104] /\ o ≠ [108,105] /\ o ≠ [97] /\ o ≠ [111,112,116,105,111,110] /\ o ≠ [116,114] /\ o ≠ [110,111,98,114] /\ o ≠ [98,117,116,116,111,110]):closesB n o = (headNB o && headNB n):=by
 unfold closesB;rw [if_neg h.1,if_neg (fun e=>e.elim h.2.1 h.2.2.1),if_neg (fun e=>e.elim h.2.2.2.1 h.2.2.2.2.1),if_neg];have h2:=h.2.2.2.2.2;simp only [sameL,List.contains_cons,List.contains_nil,Bool.or_false,Bool.or_eq_true,beq_iff_eq,not_or];exact h2
theorem rcloses14_any (n o:ByteArray) (w:World):Calls Tryz.prog 136 #[.string n,.string o] w fun e w'=>e = .returned (.bool (closesB n.data.toList o.data.toList)) /\ w = w':=by
 by_cases h0:o.data.toList = [112]
 ·obtain rfl:=ext_lit h0;have hb:=rblock14_any n w;have he:closesB n.data.toList (⟨#[112]⟩:ByteArray).data.toList = blockNL.contains n.data.toList:=rfl;rw [he];obtain ⟨bb,hbb⟩:∃ bb,bb = blockNL.contains n.data.toList:=⟨_,rfl⟩
  rw [<- hbb] at hb ⊢;have HB:=hide hb;clear h0 hb he hbb;go_enter Tryz.func136,Tryz.ntmps136;go_wp2_with fail;refine HB.out.mono ?_;rintro e w1 ⟨rfl,rfl⟩;go_wp2_with fail;go_ret;exact ⟨rfl,rfl⟩
 by_cases h1:o.data.toList = [100,100]
 ·obtain rfl:=ext_lit h1;clear h0 h1
  by_cases m:n.data.toList = [100,100]
  ·obtain rfl:=ext_lit m;clear m;rw [show closesB (⟨#[100,100]⟩:ByteArray).data.toList (⟨#[100,100]⟩:ByteArray).data.toList = true by decide];go_enter Tryz.func136,Tryz.ntmps136;go_wp2_with fail;go_ret;exact ⟨rfl,rfl⟩
  have m0:=m;clear m
  by_cases m:n.data.toList = [100,116]
  ·obtain rfl:=ext_lit m;clear m;rw [show closesB (⟨#[100,116]⟩:ByteArray).data.toList (⟨#[100,100]⟩:ByteArray).data.toList = true by decide];go_enter Tryz.func136,Tryz.ntmps136;go_wp2_with fail;go_ret;exact ⟨rfl,rfl⟩
  have m1:=m;clear m;have t0:=nb_lit m0;have t1:=nb_lit m1
  have HE:closesB n.data.toList (⟨#[100,100]⟩:ByteArray).data.toList = false:=by
   show decide (n.data.toList = [100,100] \/ n.data.toList = [100,116]) = false
   exact decide_eq_false (by simp only [not_or];exact ⟨m0,m1⟩)
  clear m0 m1;rw [HE];clear HE;go_enter Tryz.func136,Tryz.ntmps136;go_wp2_with fail;go_ret;exact ⟨rfl,rfl⟩
 by_cases h2:o.data.toList = [100,116]
 ·obtain rfl:=ext_lit h2;clear h0 h1 h2
  by_cases m:n.data.toList = [100,100]
  ·obtain rfl:=ext_lit m;clear m;rw [show closesB (⟨#[100,100]⟩:ByteArray).data.toList (⟨#[100,116]⟩:ByteArray).data.toList = true by decide];go_enter Tryz.func136,Tryz.ntmps136;go_wp2_with fail;go_ret;exact ⟨rfl,rfl⟩
  have m0:=m;clear m
  by_cases m:n.data.toList = [100,116]
  ·obtain rfl:=ext_lit m;clear m;rw [show closesB (⟨#[100,116]⟩:ByteArray).data.toList (⟨#[100,116]⟩:ByteArray).data.toList = true by decide];go_enter Tryz.func136,Tryz.ntmps136;go_wp2_with fail;go_ret;exact ⟨rfl,rfl⟩
  have m1:=m;clear m;have t0:=nb_lit m0;have t1:=nb_lit m1
  have HE:closesB n.data.toList (⟨#[100,116]⟩:ByteArray).data.toList = false:=by
   show decide (n.data.toList = [100,100] \/ n.data.toList = [100,116]) = false
   exact decide_eq_false (by simp only [not_or];exact ⟨m0,m1⟩)
  clear m0 m1;rw [HE];clear HE;go_enter Tryz.func136,Tryz.ntmps136;go_wp2_with fail;go_ret;exact ⟨rfl,rfl⟩
 by_cases h3:o.data.toList = [116,100]
 ·obtain rfl:=ext_lit h3;clear h0 h1 h2 h3
  by_cases m:n.data.toList = [116,100]
  ·obtain rfl:=ext_lit m;clear m;rw [show closesB (⟨#[116,100]⟩:ByteArray).data.toList (⟨#[116,100]⟩:ByteArray).data.toList = true by decide];go_enter Tryz.func136,Tryz.ntmps136;go_wp2_with fail;go_ret;exact ⟨rfl,rfl⟩
  have m0:=m;clear m
  by_cases m:n.data.toList = [116,104]
  ·obtain rfl:=ext_lit m;clear m;rw [show closesB (⟨#[116,104]⟩:ByteArray).data.toList (⟨#[116,100]⟩:ByteArray).data.toList = true by decide];go_enter Tryz.func136,Tryz.ntmps136;go_wp2_with fail;go_ret;exact ⟨rfl,rfl⟩
  have m1:=m;clear m
  by_cases m:n.data.toList = [116,114]
  ·obtain rfl:=ext_lit m;clear m;rw [show closesB (⟨#[116,114]⟩:ByteArray).data.toList (⟨#[116,100]⟩:ByteArray).data.toList = true by decide];go_enter Tryz.func136,Tryz.ntmps136;go_wp2_with fail;go_ret;exact ⟨rfl,rfl⟩
  have m2:=m;clear m;have t0:=nb_lit m0;have t1:=nb_lit m1;have t2:=nb_lit m2
  have HE:closesB n.data.toList (⟨#[116,100]⟩:ByteArray).data.toList = false:=by
   show decide (n.data.toList = [116,100] \/ n.data.toList = [116,104] \/ n.data.toList = [116,114]) = false
   exact decide_eq_false (by simp only [not_or];exact ⟨m0,m1,m2⟩)
  clear m0 m1 m2;rw [HE];clear HE;go_enter Tryz.func136,Tryz.ntmps136;go_wp2_with fail;go_ret;exact ⟨rfl,rfl⟩
 by_cases h4:o.data.toList = [116,104]
 ·obtain rfl:=ext_lit h4;clear h0 h1 h2 h3 h4
  by_cases m:n.data.toList = [116,100]
  ·obtain rfl:=ext_lit m;clear m;rw [show closesB (⟨#[116,100]⟩:ByteArray).data.toList (⟨#[116,104]⟩:ByteArray).data.toList = true by decide];go_enter Tryz.func136,Tryz.ntmps136;go_wp2_with fail;go_ret;exact ⟨rfl,rfl⟩
  have m0:=m;clear m
  by_cases m:n.data.toList = [116,104]
  ·obtain rfl:=ext_lit m;clear m;rw [show closesB (⟨#[116,104]⟩:ByteArray).data.toList (⟨#[116,104]⟩:ByteArray).data.toList = true by decide];go_enter Tryz.func136,Tryz.ntmps136;go_wp2_with fail;go_ret;exact ⟨rfl,rfl⟩
  have m1:=m;clear m
  by_cases m:n.data.toList = [116,114]
  ·obtain rfl:=ext_lit m;clear m;rw [show closesB (⟨#[116,114]⟩:ByteArray).data.toList (⟨#[116,104]⟩:ByteArray).data.toList = true by decide];go_enter Tryz.func136,Tryz.ntmps136;go_wp2_with fail;go_ret;exact ⟨rfl,rfl⟩
  have m2:=m;clear m;have t0:=nb_lit m0;have t1:=nb_lit m1;have t2:=nb_lit m2
  have HE:closesB n.data.toList (⟨#[116,104]⟩:ByteArray).data.toList = false:=by
   show decide (n.data.toList = [116,100] \/ n.data.toList = [116,104] \/ n.data.toList = [116,114]) = false
   exact decide_eq_false (by simp only [not_or];exact ⟨m0,m1,m2⟩)
  clear m0 m1 m2;rw [HE];clear HE;go_enter Tryz.func136,Tryz.ntmps136;go_wp2_with fail;go_ret;exact ⟨rfl,rfl⟩
 by_cases h5:o.data.toList = [108,105]
 ·obtain rfl:=ext_lit h5;clear h0 h1 h2 h3 h4 h5
  by_cases m:n.data.toList = [108,105]
  ·obtain rfl:=ext_lit m;clear m;rw [show closesB (⟨#[108,105]⟩:ByteArray).data.toList (⟨#[108,105]⟩:ByteArray).data.toList = true by decide];go_enter Tryz.func136,Tryz.ntmps136;go_wp2_with fail;go_ret;exact ⟨rfl,rfl⟩
  have m0:=m;clear m;have t0:=nb_lit m0
  have HE:closesB n.data.toList (⟨#[108,105]⟩:ByteArray).data.toList = false:=by
   show decide (n.data.toList = [108,105]) = false
   exact decide_eq_false m0
  clear m0;rw [HE];clear HE;go_enter Tryz.func136,Tryz.ntmps136;go_wp2_with fail;go_ret;exact ⟨rfl,rfl⟩
 by_cases h6:o.data.toList = [97]
 ·obtain rfl:=ext_lit h6;clear h0 h1 h2 h3 h4 h5 h6
  by_cases m:n.data.toList = [97]
  ·obtain rfl:=ext_lit m;clear m;rw [show closesB (⟨#[97]⟩:ByteArray).data.toList (⟨#[97]⟩:ByteArray).data.toList = true by decide];go_enter Tryz.func136,Tryz.ntmps136;go_wp2_with fail;go_ret;exact ⟨rfl,rfl⟩
  have m0:=m;clear m;have t0:=nb_lit m0
  have HE:closesB n.data.toList (⟨#[97]⟩:ByteArray).data.toList = false:=by
   show decide (n.data.toList = [97]) = false
   exact decide_eq_false m0
  clear m0;rw [HE];clear HE;go_enter Tryz.func136,Tryz.ntmps136;go_wp2_with fail;go_ret;exact ⟨rfl,rfl⟩
 by_cases h7:o.data.toList = [111,112,116,105,111,110]
 ·obtain rfl:=ext_lit h7;clear h0 h1 h2 h3 h4 h5 h6 h7
  by_cases m:n.data.toList = [111,112,116,105,111,110]
  ·obtain rfl:=ext_lit m;clear m;rw [show closesB (⟨#[111,112,116,105,111,110]⟩:ByteArray).data.toList (⟨#[111,112,116,105,111,110]⟩:ByteArray).data.toList = true by decide];go_enter Tryz.func136,Tryz.ntmps136;go_wp2_with fail;go_ret;exact ⟨rfl,rfl⟩
  have m0:=m;clear m;have t0:=nb_lit m0
  have HE:closesB n.data.toList (⟨#[111,112,116,105,111,110]⟩:ByteArray).data.toList = false:=by
   show decide (n.data.toList = [111,112,116,105,111,110]) = false
   exact decide_eq_false m0
  clear m0;rw [HE];clear HE;go_enter Tryz.func136,Tryz.ntmps136;go_wp2_with fail;go_ret;exact ⟨rfl,rfl⟩
 by_cases h8:o.data.toList = [116,114]
 ·obtain rfl:=ext_lit h8;clear h0 h1 h2 h3 h4 h5 h6 h7 h8
  by_cases m:n.data.toList = [116,114]
  ·obtain rfl:=ext_lit m;clear m;rw [show closesB (⟨#[116,114]⟩:ByteArray).data.toList (⟨#[116,114]⟩:ByteArray).data.toList = true by decide];go_enter Tryz.func136,Tryz.ntmps136;go_wp2_with fail;go_ret;exact ⟨rfl,rfl⟩
  have m0:=m;clear m;have t0:=nb_lit m0
  have HE:closesB n.data.toList (⟨#[116,114]⟩:ByteArray).data.toList = false:=by
   show decide (n.data.toList = [116,114]) = false
   exact decide_eq_false m0
  clear m0;rw [HE];clear HE;go_enter Tryz.func136,Tryz.ntmps136;go_wp2_with fail;go_ret;exact ⟨rfl,rfl⟩
 by_cases h9:o.data.toList = [110,111,98,114]
 ·obtain rfl:=ext_lit h9;clear h0 h1 h2 h3 h4 h5 h6 h7 h8 h9
  by_cases m:n.data.toList = [110,111,98,114]
  ·obtain rfl:=ext_lit m;clear m;rw [show closesB (⟨#[110,111,98,114]⟩:ByteArray).data.toList (⟨#[110,111,98,114]⟩:ByteArray).data.toList = true by decide];go_enter Tryz.func136,Tryz.ntmps136;go_wp2_with fail;go_ret;exact ⟨rfl,rfl⟩
  have m0:=m;clear m;have t0:=nb_lit m0
  have HE:closesB n.data.toList (⟨#[110,111,98,114]⟩:ByteArray).data.toList = false:=by
   show decide (n.data.toList = [110,111,98,114]) = false
   exact decide_eq_false m0
  clear m0;rw [HE];clear HE;go_enter Tryz.func136,Tryz.ntmps136;go_wp2_with fail;go_ret;exact ⟨rfl,rfl⟩
 by_cases h10:o.data.toList = [98,117,116,116,111,110]
 ·obtain rfl:=ext_lit h10;clear h0 h1 h2 h3 h4 h5 h6 h7 h8 h9 h10
  by_cases m:n.data.toList = [98,117,116,116,111,110]
  ·obtain rfl:=ext_lit m;clear m;rw [show closesB (⟨#[98,117,116,116,111,110]⟩:ByteArray).data.toList (⟨#[98,117,116,116,111,110]⟩:ByteArray).data.toList = true by decide];go_enter Tryz.func136,Tryz.ntmps136;go_wp2_with fail;go_ret;exact ⟨rfl,rfl⟩
  have m0:=m;clear m;have t0:=nb_lit m0
  have HE:closesB n.data.toList (⟨#[98,117,116,116,111,110]⟩:ByteArray).data.toList = false:=by
   show decide (n.data.toList = [98,117,116,116,111,110]) = false
   exact decide_eq_false m0
  clear m0;rw [HE];clear HE;go_enter Tryz.func136,Tryz.ntmps136;go_wp2_with fail;go_ret;exact ⟨rfl,rfl⟩
 rw [rcloses14_pure n.data.toList o.data.toList ⟨h0,h1,h2,h3,h4,h5,h6,h7,h8,h9,h10⟩];have t0:=nb_lit h0;have t1:=nb_lit h1;have t2:=nb_lit h2;have t3:=nb_lit h3;have t4:=nb_lit h4;have t5:=nb_lit h5;have t6:=nb_lit h6;have t7:=nb_lit h7;have t8:=nb_lit h8;have t9:=nb_lit h9;have t10:=nb_lit h10;clear h0 h1 h2 h3 h4 h5 h6 h7 h8 h9 h10;have hh:∀ (s:ByteArray) (bb:Bool),headNB s.data.toList = bb -> Calls Tryz.prog 162 #[.string s] w fun e w'=>e = .returned (.bool bb) /\ w = w':=fun s bb e=>by rw [<- e];exact rhead14_any s w
 cases ho:headNB o.data.toList with
 | false =>
  have HO:=hide (hh o false ho);clear hh ho;go_enter Tryz.func136,Tryz.ntmps136;go_wp2_with fail;refine HO.out.mono ?_;rintro e w1 ⟨rfl,rfl⟩;go_wp2_with fail;go_ret;exact ⟨rfl,rfl⟩
 | true =>
  have HO:=hide (hh o true ho);obtain ⟨bb,hbb⟩:∃ bb,bb = headNB n.data.toList:=⟨_,rfl⟩
  have HN:=hide (hh n bb hbb.symm);rw [<- hbb];clear hh ho hbb;go_enter Tryz.func136,Tryz.ntmps136;go_wp2_with fail;refine HO.out.mono ?_;rintro e w1 ⟨rfl,rfl⟩;go_wp2_with fail;refine HN.out.mono ?_;rintro e w1 ⟨rfl,rfl⟩;go_wp2_with fail;go_ret;exact ⟨rfl,rfl⟩
theorem raw13_any (n:ByteArray) (w:World) :
  Calls Tryz.prog 61 #[.string n] w fun e w'=>e = .returned (.bool (rawL.contains n.data.toList)) /\ w = w':=by
 cases hk:rawL.contains n.data.toList with
 | true =>
  rcases rawL_cases _ hk with h | h | h | h | h | h | h | h | h | h
  iterate 10
   ·obtain rfl:=ext_lit h;clear hk h;go_enter Tryz.func61,Tryz.ntmps61;go_wp2_with fail;go_ret;exact ⟨rfl,rfl⟩
 | false =>
  obtain ⟨n0,n1,n2,n3,n4,n5,n6,n7,n8,n9⟩:=rawL_none _ hk;have t0:=nb_lit n0;have t1:=nb_lit n1;have t2:=nb_lit n2;have t3:=nb_lit n3;have t4:=nb_lit n4;have t5:=nb_lit n5;have t6:=nb_lit n6;have t7:=nb_lit n7;have t8:=nb_lit n8;have t9:=nb_lit n9;clear hk n0 n1 n2 n3 n4 n5 n6 n7 n8 n9;go_enter Tryz.func61,Tryz.ntmps61;go_wp2_with fail;go_ret;exact ⟨rfl,rfl⟩
def nodeW (h:NdH) (K:Tr):List UInt8:=if h.name = [] then escQ false h.text else if voidB h.name = true then startW h else startW h ++ ((if rawB h.name = true then rawK K else writeT K) ++ endW h)
def writeL (l:List (NdH × Tr)):List UInt8:=l.flatMap (fun p=>nodeW p.1 p.2)
theorem writeT_list (T:Tr):writeT T = writeL T.list:=by induction T with
 | nil=>rfl
 | cons h K R _ ih=>simp only [writeT,Tr.list,writeL,List.flatMap_cons,ih,nodeW]
theorem writeL_take (l:List (NdH × Tr)) (k:Nat) {h:NdH} {K:Tr} (hk:l[k]? = some (h,K)):writeL (l.take (k + 1)) = writeL (l.take k) ++ nodeW h K:=by
 unfold writeL;rw [List.take_add_one,hk,List.flatMap_append];simp
theorem writeL_len (l:List (NdH × Tr)) (k:Nat):(writeL (l.take k)).length <= (writeL l).length:=by
 have:writeL l = writeL (l.take k) ++ writeL (l.drop k):=by unfold writeL;rw [<- List.flatMap_append,List.take_append_drop]
 rw [this,List.length_append];omega
theorem str_lt:(⟨#[60,47]⟩:ByteArray) = str [60,47]:=rfl
theorem str_gt:(⟨#[62]⟩:ByteArray) = str [62]:=rfl
theorem end_str (S X:ByteArray) (h:NdH) (hX:X = str h.name):S ++ ⟨#[60,47]⟩ ++ X ++ ⟨#[62]⟩ = S ++ str (endW h):=by
 have:endW h = [60,47] ++ h.name ++ [62]:=by simp [endW]
 rw [this,str_append,str_append,hX,str_lt,str_gt,ByteArray.append_assoc,ByteArray.append_assoc,ByteArray.append_assoc]
def WriteP (N:Nat):Prop:=∀ (v:Value) (T:Tr) (w:World),T.count < N -> (writeT T).length <= 1000000000 -> T.count <= 1000000 -> T.all smallH = true -> NodesIn w v T ->
    Calls Tryz.prog 22 #[v] w fun e w'=>e = .returned (.string (str (writeT T))) /\ Below w.heap.size w w'
theorem write15_step (N:Nat) (IH:WriteP N):WriteP (N + 1):=by
 intro v T w hN hl hc ha hT;have hlen:=Tr.len_count T;obtain ⟨A,c,rfl⟩:=NodesC.form hT;have H:=hide hT;have HIH:=hide IH;have HA:=hide ha;have HL:Hid ((writeL T.list).length <= 1000000000):=hide (by rw [<- writeT_list];exact hl);clear hT IH hl ha;go_enter Tryz.func22,Tryz.ntmps22;go_wp2_with fail;go_loopw [3,4] (fun ov i wr=>∃ (k:Nat) (S:ByteArray),k <= T.len /\ i = .int .i64 k /\ ov = .string S /\ Hid (S = str (writeL (T.list.take k))) /\ Hid (Below w.heap.size w wr)) (fun _ i _=>T.len - (intOf i).toNat)
 case atStart=>exact ⟨0,⟨#[]⟩,Nat.zero_le _,rfl,rfl,hide rfl,hide (Below.refl _ _)⟩
 case round =>
  obtain ⟨k,S,hk,rfl,rfl,HS,HB⟩:=hrel
  by_cases hlt:k < T.len
  ·obtain ⟨⟨f,K⟩,hf⟩:∃ f,T.list[k]? = some f:=⟨_,List.getElem?_eq_getElem (by rw [Tr.len_list];exact hlt)⟩
   have hI1:=H.out.kept HB.out;obtain ⟨a,dd,x,y,zz,mm,hA,-,p1,p2,hAt,p3,p4,hmm,hK⟩:=NodesC.at hI1 k f K hf;subst hA hmm;have hKc:=Tr.at_count hf;obtain ⟨fs,ks⟩:=Tr.all_at HA.out hf;obtain ⟨z1,z2,z3,z4⟩:=fitT_len fs;have htk:=writeL_take T.list k hf
   have hle:(writeL (T.list.take k)).length + (nodeW f K).length <= 1000000000:=by
    have h1:=writeL_len T.list (k + 1);have h2:=HL.out;rw [htk,List.length_append] at h1;omega
   obtain ⟨X,hX⟩:∃ X,X = str f.name:=⟨_,rfl⟩
   obtain ⟨Y,hY⟩:∃ X,X = str f.text:=⟨_,rfl⟩
   rw [<- hX] at p1;rw [<- hY] at p3;have zX:X.size <= 300:=by rw [hX,str_size];exact z1
   have zY:Y.size <= 300:=by rw [hY,str_size];exact z2
   have zS:S.size = (writeL (T.list.take k)).length:=by rw [HS.out,str_size]
   have HXD:Hid (X.data.toList = f.name):=hide (by rw [hX,str_toList]);have HYD:Hid (Y.data.toList = f.text):=hide (by rw [hY,str_toList]);have hb1:=below_one wr (Obj.cells #[.string X,.slice dd f.attrs.length y,.string Y,.slice x K.len zz] 33);have hblk:=heap_alloc_new wr (Obj.cells #[.string X,.slice dd f.attrs.length y,.string Y,.slice x K.len zz] 33);have HB1:=hide (bl_two HB.out hb1);have HBX:Hid (∀ w',Below wr.heap.size wr w' -> True):=hide (fun _ _=>trivial);obtain ⟨Wb,hWb⟩:∃ W,W = wr.alloc (Obj.cells #[.string X,.slice dd f.attrs.length y,.string Y,.slice x K.len zz] 33):=⟨_,rfl⟩
   have hszb:Wb.heap.size = wr.heap.size + 1:=by rw [hWb,World.size_alloc]
   have HCB:Hid (∀ w',Below Wb.heap.size Wb w' -> w'.cell? ⟨wr.heap.size,0,none⟩ = some (.string X) /\ w'.cell? ⟨wr.heap.size,3,none⟩ = some (.slice x K.len zz) /\ NodesIn w' (.slice x K.len zz) K):=hide (fun w' hb=>by
    have hh:w'.heap[wr.heap.size]? = some (Obj.cells #[.string X,.slice dd f.attrs.length y,.string Y,.slice x K.len zz] 33 (0,0)):=(hb.block _ (by omega)).trans (by rw [hWb];exact hblk);have hbw:Below wr.heap.size wr Wb:=by rw [hWb];exact hb1
    exact ⟨(Lib.cell_of_heap hh 0).trans rfl,(Lib.cell_of_heap hh 3).trans rfl,NodesIn.kept hK (bl_two hbw hb)⟩)
   by_cases hn:f.name = []
   ·have h0:X.toList.isEmpty = true:=by rw [hX,str_list,hn];rfl
    have hnw:nodeW f K = escQ false f.text:=by unfold nodeW;rw [if_pos hn]
    obtain ⟨Q,hQ⟩:∃ Q,Q = str (escQ false Y.data.toList):=⟨_,rfl⟩
    have HN:Hid (S ++ Q = str (writeL (T.list.take (k + 1)))):=hide (by rw [htk,hnw,str_append,HS.out,hQ,HYD.out])
    have q1:¬ (9223372036854775807 < S.size + Q.size):=by
     rw [hQ,str_size,HYD.out,zS,<- hnw];omega
    have HTX:Hid (∀ w',Calls Tryz.prog 58 #[.string Y] w' fun e w''=>e = .returned (.string Q) /\ Below w'.heap.size w' w''):=hide (fun w'=>by have:=refText12_any Y w' (by omega);rw [<- hQ] at this;exact this);clear hX hY hn hf hI1 hAt hK htk hle hnw hQ zS HCB hWb hszb fs ks z1 z2 z3 z4 hb1 hblk;go_wp2_with fail;refine (HTX.out _).mono ?_;rintro e w2 ⟨rfl,hb⟩;have HB2:=hide (bl_two HB1.out hb);clear hb;go_wp2_with fail;go_roundw
    case rel=>exact ⟨k + 1,_,by omega,by go_num,rfl,HN,HB2⟩
    case measure=>simp [intOf];omega
   ·have h0:X.toList.isEmpty = false:=by
     rw [hX,str_list];cases hh:f.name with
     | nil=>exact absurd hh hn
     | cons _ _=>rfl
    obtain ⟨P,hP⟩:∃ P,P = str (startW f):=⟨_,rfl⟩
    have zP:P.size = (startW f).length:=by rw [hP,str_size]
    have hAb:AttrsIn Wb (.slice dd f.attrs.length y) f.attrs:=by rw [hWb];exact hAt.1.kept hb1
    have hti:=tok_one Wb 2 f (.slice dd f.attrs.length y) hAb (wr.heap.size + 1) hszb;rw [<- hX] at hti;have hst:=refWrite13_any _ _ _ hti (by simp) (fun p hp=>by rw [List.mem_singleton.1 hp];exact small_tok fs)
    have he:writeG [((2:Int),(⟨0,f.name,f.attrs,[]⟩:TokL))] = startW f:=by
     have e1:writeG [((2:Int),(⟨0,f.name,f.attrs,[]⟩:TokL))] = tokG (2,⟨0,f.name,f.attrs,[]⟩):=by simp [writeG]
     rw [e1];exact tokG_start rfl
    rw [he,<- hP] at hst;have hbt:=below_one Wb (Obj.cells #[.int .i64 2,.string X,.slice dd f.attrs.length y,.string ⟨#[]⟩] 51);have hnw:nodeW f K = if voidB f.name = true then startW f else startW f ++ ((if rawB f.name = true then rawK K else writeT K) ++ endW f):=by unfold nodeW;rw [if_neg hn]
    have HVO:Hid (∀ w',Calls Tryz.prog 60 #[.string X] w' fun e w''=>e = .returned (.bool (voidB f.name)) /\ w' = w''):=hide (fun w'=>by have:=rvoid14_any X w';rw [HXD.out] at this;exact this);have HRW:Hid (∀ w',Calls Tryz.prog 61 #[.string X] w' fun e w''=>e = .returned (.bool (rawB f.name)) /\ w' = w''):=hide (fun w'=>by have:=raw13_any X w';rw [HXD.out] at this;exact this);have HST:=hide hst;have HBT:=hide hbt;have HS0:Hid (S ++ P = str (writeL (T.list.take k) ++ startW f)):=hide (by rw [str_append,HS.out,hP])
    have q1:¬ (9223372036854775807 < S.size + P.size):=by
     rw [zS,zP];have:(startW f).length <= (nodeW f K).length:=by rw [hnw];split <;> simp
     omega
    have HCW:Hid ((writeT K).length <= 1000000000 -> ∀ w',NodesIn w' (.slice x K.len zz) K -> Calls Tryz.prog 22 #[.slice x K.len zz] w' fun e w''=>e = .returned (.string (str (writeT K))) /\ Below w'.heap.size w' w''):=hide (fun hl w' hu=>HIH.out _ K w' (by show K.count < N;omega) hl (by show K.count <= _;omega) ks hu);have hkl:K.len <= 1000000:=by have h1:=Tr.len_count K;have h2:K.count < T.count:=hKc;omega
    have HBW:Hid (Below w.heap.size w Wb):=hide (by rw [hWb];exact HB1.out);subst hWb;clear hAb hti hst he hbt hP hX hY hf hI1 hAt hK zS zP fs ks z1 z2 z3 z4 hb1 hblk hn hszb;cases hv:voidB f.name with
    | true =>
     rw [hv] at HVO hnw;have HN:Hid (S ++ P = str (writeL (T.list.take (k + 1)))):=hide (by rw [htk,hnw,if_pos rfl,HS0.out]);clear hv hnw htk hle;go_wp2_with fail;refine HST.out.mono ?_;rintro e w3 ⟨rfl,hb3⟩;have HB3:=hide (bl_two (bl_two HBW.out HBT.out) hb3);have hc0:=(HCB.out w3 (bl_two HBT.out hb3)).1;clear hb3;go_wp2_with fail;refine (HVO.out _).mono ?_;rintro e w4 ⟨rfl,rfl⟩;have HB9:=HB3;go_wp2_with fail;go_roundw
     case rel=>exact ⟨k + 1,_,by omega,by go_num,rfl,HN,HB9⟩
     case measure=>simp [intOf];omega
    | false =>
     rw [hv] at HVO hnw;rw [if_neg (by simp)] at hnw;clear hv;cases hr:rawB f.name with
     | true =>
      rw [hr] at HRW hnw;rw [if_pos rfl] at hnw
      have hz:(writeL (T.list.take k)).length + ((startW f).length + ((rawK K).length + (f.name.length + 3))) <= 1000000000:=by
       rw [hnw,List.length_append,List.length_append] at hle;have:(endW f).length = f.name.length + 3:=by simp [endW]
       omega
      clear hr hle;go_wp2_with fail;refine HST.out.mono ?_;rintro e w3 ⟨rfl,hb3⟩;have HB3:=hide (bl_two (bl_two HBW.out HBT.out) hb3);have HX3:=hide (bl_two HBT.out hb3);have hc0:=(HCB.out w3 HX3.out).1;have hc3:=(HCB.out w3 HX3.out).2.1;clear hb3;go_wp2_with fail;generalize hG:S ++ P = S1;have HS1:Hid (S1 = str (writeL (T.list.take k) ++ startW f)):=hide (by rw [<- hG];exact HS0.out);clear hG HS0;refine (HVO.out _).mono ?_;rintro e w4 ⟨rfl,rfl⟩;go_wp2_with fail;refine (HRW.out _).mono ?_;rintro e w4 ⟨rfl,rfl⟩;go_wp2_with fail;have HC0:=hide hc0;have HC3:=hide hc3;have HKI:=hide (HCB.out _ HX3.out).2.2;have zS1:S1.size = (writeL (T.list.take k)).length + (startW f).length:=by rw [HS1.out,str_size,List.length_append]
      have zX2:X.size = f.name.length:=by rw [<- HXD.out,toList_length]
      have hXn:X = str f.name:=by rw [<- HXD.out,str_of]
      rw [rawK_list] at hz;have HNW:Hid (nodeW f K = startW f ++ (rawKl K.list ++ endW f)):=hide (by rw [hnw,rawK_list]);have HTK:=hide htk;clear hnw htk;go_loopw [3,6] (fun ov i w6=>∃ (j:Nat) (S2:ByteArray),j <= K.len /\ i = .int .i64 j /\ ov = .string S2 /\ Hid (S2 = str (writeL (T.list.take k) ++ startW f ++ rawKl (K.list.take j))) /\ Hid (w6 = w3)) (fun _ i _=>K.len - (intOf i).toNat)
      case atStart=>exact ⟨0,S1,Nat.zero_le _,rfl,rfl,hide (by rw [HS1.out];simp [rawKl]),hide rfl⟩
      case round =>
       obtain ⟨j,S2,hj,rfl,rfl,HS2,HWE⟩:=hrel;obtain rfl:=HWE.out;have hrl:=rawKl_le K.list j;have zS2:S2.size = (writeL (T.list.take k)).length + (startW f).length + (rawKl (K.list.take j)).length:=by rw [HS2.out,str_size,List.length_append,List.length_append]
       by_cases hjl:j < K.len
       ·obtain ⟨⟨g,KK⟩,hg⟩:∃ f,K.list[j]? = some f:=⟨_,List.getElem?_eq_getElem (by rw [Tr.len_list];exact hjl)⟩
        obtain ⟨a2,dd2,x2,y2,zz2,mm2,hA2,-,r1,r2,-,r3,r4,hmm2,-⟩:=NodesC.at HKI.out j g KK hg;subst hA2 hmm2;have hsn:rawKl (K.list.take (j + 1)) = rawKl (K.list.take j) ++ (if g.name = [] then g.text else []):=by rw [List.take_add_one,hg];exact rawKl_snoc _ _
        have hrl2:=rawKl_le K.list (j + 1);obtain ⟨X2,hX2⟩:∃ X,X = str g.name:=⟨_,rfl⟩
        obtain ⟨Y2,hY2⟩:∃ X,X = str g.text:=⟨_,rfl⟩
        rw [<- hX2] at r1;rw [<- hY2] at r3;have hc3:=HC3.out
        by_cases hgn:g.name = []
        ·have h2:X2.toList.isEmpty = true:=by rw [hX2,str_list,hgn];rfl
         rw [if_pos hgn] at hsn;have zY2:Y2.size = g.text.length:=by rw [hY2,str_size]
         have q2:¬ (9223372036854775807 < S2.size + Y2.size):=by
          rw [hsn,List.length_append] at hrl2;omega
         have HN2:Hid (S2 ++ Y2 = str (writeL (T.list.take k) ++ startW f ++ rawKl (K.list.take (j + 1)))):=hide (by rw [hsn,<- List.append_assoc,str_append,<- HS2.out,hY2]);clear hX2 hY2 hg hsn hrl hrl2 zS1 zS2 zX2 zY2 hz hgn hXn;go_wp2_with fail;go_roundw
         case rel=>exact ⟨j + 1,_,by omega,by go_num,rfl,HN2,by first | exact hide rfl | exact hide trivial⟩
         case measure=>simp [intOf];omega
        ·have h2:X2.toList.isEmpty = false:=by
          rw [hX2,str_list];cases hh:g.name with
          | nil=>exact absurd hh hgn
          | cons _ _=>rfl
         rw [if_neg hgn,List.append_nil] at hsn;have HN2:Hid (S2 = str (writeL (T.list.take k) ++ startW f ++ rawKl (K.list.take (j + 1)))):=hide (by rw [hsn];exact HS2.out);clear hX2 hY2 hg hsn hrl hrl2 zS1 zS2 zX2 hz hgn hXn;go_wp2_with fail;go_roundw
         case rel=>exact ⟨j + 1,_,by omega,by go_num,rfl,HN2,by first | exact hide rfl | exact hide trivial⟩
         case measure=>simp [intOf];omega
       ·obtain rfl:j = K.len:=by omega
        have hc3:=HC3.out;have hd0:=HC0.out;have HB9:=HB3;have q3:¬ (9223372036854775807 < S2.size + 2):=by omega
        have q4:¬ (9223372036854775807 < S2.size + 2 + X.size):=by omega
        have q5:¬ (9223372036854775807 < S2.size + 2 + X.size + 1):=by omega
        have hrk:rawKl (K.list.take K.len) = rawKl K.list:=by rw [<- Tr.len_list,List.take_length]
        have HN:Hid (S2 ++ ⟨#[60,47]⟩ ++ X ++ ⟨#[62]⟩ = str (writeL (T.list.take (k + 1)))):=hide (by
         rw [end_str S2 X f hXn,HTK.out,HNW.out,HS2.out,hrk,<- str_append,List.append_assoc,List.append_assoc])
        clear hrl zS1 zS2 zX2 hz hXn hrk hjl;go_wp2_with fail;go_roundw
        case rel=>exact ⟨k + 1,_,by omega,by go_num,rfl,HN,HB9⟩
        case measure=>simp [intOf];omega
     | false =>
      rw [hr] at HRW hnw;rw [if_neg (by simp)] at hnw
      have hz:(writeL (T.list.take k)).length + ((startW f).length + ((writeT K).length + (f.name.length + 3))) <= 1000000000:=by
       rw [hnw,List.length_append,List.length_append] at hle;have:(endW f).length = f.name.length + 3:=by simp [endW]
       omega
      clear hr hle;go_wp2_with fail;refine HST.out.mono ?_;rintro e w3 ⟨rfl,hb3⟩;have HB3:=hide (bl_two (bl_two HBW.out HBT.out) hb3);have HX3:=hide (bl_two HBT.out hb3);have hc0:=(HCB.out w3 HX3.out).1;have hc3:=(HCB.out w3 HX3.out).2.1;clear hb3;go_wp2_with fail;generalize hG:S ++ P = S1;have HS1:Hid (S1 = str (writeL (T.list.take k) ++ startW f)):=hide (by rw [<- hG];exact HS0.out);clear hG HS0;refine (HVO.out _).mono ?_;rintro e w4 ⟨rfl,rfl⟩;go_wp2_with fail;refine (HRW.out _).mono ?_;rintro e w4 ⟨rfl,rfl⟩;go_wp2_with fail;obtain ⟨Q,hQ⟩:∃ Q,Q = str (writeT K):=⟨_,rfl⟩
      have hcw:=HCW.out (by omega) _ (HCB.out _ HX3.out).2.2;rw [<- hQ] at hcw;refine hcw.mono ?_;rintro e w5 ⟨rfl,hb5⟩;have HB9:=hide (bl_two HB3.out hb5);have hd0:=(HCB.out w5 (bl_two HX3.out hb5)).1;have zS1:S1.size = (writeL (T.list.take k)).length + (startW f).length:=by rw [HS1.out,str_size,List.length_append]
      have zQ:Q.size = (writeT K).length:=by rw [hQ,str_size]
      have zX2:X.size = f.name.length:=by rw [<- HXD.out,toList_length]
      have q2:¬ (9223372036854775807 < S1.size + Q.size):=by omega
      have q3:¬ (9223372036854775807 < S1.size + Q.size + 2):=by omega
      have q4:¬ (9223372036854775807 < S1.size + Q.size + 2 + X.size):=by omega
      have q5:¬ (9223372036854775807 < S1.size + Q.size + 2 + X.size + 1):=by omega
      have hXn:X = str f.name:=by rw [<- HXD.out,str_of]
      have HN:Hid (S1 ++ Q ++ ⟨#[60,47]⟩ ++ X ++ ⟨#[62]⟩ = str (writeL (T.list.take (k + 1)))):=hide (by
       rw [end_str (S1 ++ Q) X f hXn,htk,hnw,HS1.out,hQ,str_append,str_append,str_append,str_append,ByteArray.append_assoc,ByteArray.append_assoc])
      clear hb5 hc0 hc3 hcw hQ zS1 zQ zX2 hz hnw htk hXn;go_wp2_with fail;go_roundw
      case rel=>exact ⟨k + 1,_,by omega,by go_num,rfl,HN,HB9⟩
      case measure=>simp [intOf];omega
  ·obtain rfl:k = T.len:=by omega
   have HR:Hid (S = str (writeT T)):=hide (by rw [HS.out,writeT_list,<- Tr.len_list,List.take_length]);go_wp2_with fail;go_ret;exact ⟨ret_str HR.out,HB.out⟩
theorem write15_all:∀ N,WriteP N
 | 0=>fun v T w h=>absurd h (by omega)
 | N + 1=>write15_step N (write15_all N)
theorem write15_any (v:Value) (T:Tr) (w:World) (hT:NodesIn w v T) (hc:T.count <= 1000000) (ha:T.all smallH = true) (hl:(writeT T).length <= 1000000000) :
  Calls Tryz.prog 22 #[v] w fun e w'=>e = .returned (.string (str (writeT T))) /\ Below w.heap.size w w' :=
 write15_all (T.count + 1) v T w (Nat.lt_succ_self _) hl hc ha hT
theorem small_parts {h:NdH} (hs:smallH h = true):h.name.length <= 300 /\ h.text.length <= 300:=by
 unfold smallH fitT at hs;simp only [Bool.and_eq_true,decide_eq_true_eq] at hs;exact ⟨hs.1,hs.2.1⟩
theorem startW_len {h:NdH} (hs:smallH h = true):(startW h).length <= 84500:=by
 have e:=tokG_start (p:=(2,(⟨0,h.name,h.attrs,[]⟩:TokL))) rfl;have:=tokG_len (p:=(2,(⟨0,h.name,h.attrs,[]⟩:TokL))) (small_tok hs);rw [e] at this;exact this
theorem endW_len {h:NdH} (hs:smallH h = true):(endW h).length <= 303:=by
 have:=(small_parts hs).1;unfold endW;simp only [List.length_cons,List.length_append,List.length_nil];omega
theorem textW_len {h:NdH} (hs:smallH h = true):(escQ false h.text).length <= 84500:=by
 have hf:fitT (⟨0,[],[],h.text⟩:TokL) = true:=by
  unfold fitT;simp only [Bool.and_eq_true,decide_eq_true_eq];exact ⟨Nat.zero_le _,(small_parts hs).2,Nat.zero_le _,rfl⟩
 have:=tokG_len (p:=(1,(⟨0,[],[],h.text⟩:TokL))) hf;rw [tokG_chars rfl] at this;exact this
theorem rawK_len (T:Tr) (ha:T.all smallH = true):(rawK T).length <= 85000 * T.count:=by
 induction T with
 | nil=>exact Nat.le_refl _
 | cons h K R ihk ihr =>
  simp only [Tr.all,Bool.and_eq_true] at ha;have h1:=ihr ha.2.2;have h2:=(small_parts ha.1).2;simp only [rawK,List.length_append,Tr.count];have h3:(if h.name = [] then h.text else []).length <= 300:=by split <;> first | exact h2 | exact Nat.zero_le _
  omega
theorem writeT_len (T:Tr) (ha:T.all smallH = true):(writeT T).length <= 85000 * T.count:=by
 induction T with
 | nil=>exact Nat.le_refl _
 | cons h K R ihk ihr =>
  simp only [Tr.all,Bool.and_eq_true] at ha;have h1:=ihr ha.2.2;have h2:=ihk ha.2.1;have h3:=rawK_len K ha.2.1;have h4:=startW_len ha.1;have h5:=endW_len ha.1;have h6:=textW_len ha.1;simp only [writeT,List.length_append,Tr.count];split
  ·omega
  ·split
   ·omega
   ·simp only [List.length_append];split <;> omega
theorem small_write {T:Tr} (hc:T.count <= 60) (ha:T.all smallH = true):(writeT T).length <= 5100000:=by
 have:=writeT_len T ha;omega
theorem textT_len (T:Tr) (ha:T.all smallH = true):(textT T).length <= 300 * T.count:=by
 induction T with
 | nil=>exact Nat.le_refl _
 | cons h K R ihk ihr =>
  simp only [Tr.all,Bool.and_eq_true] at ha;have h1:=ihr ha.2.2;have h2:=ihk ha.2.1;have h3:=(small_parts ha.1).2;simp only [textT,List.length_append,Tr.count];split <;> omega
abbrev ArN:=NdH × List Nat
inductive ArRes (all:List ArN) (hot:List Nat):List Nat -> Tr -> Prop where
  | nil:ArRes all hot [] .nil
  | cons {k:Nat} {h:NdH} {ks r:List Nat} {K R:Tr} (hk:all[k]? = some (h,ks)) (hn:k ∉ hot) (hK:ArRes all hot ks K) (hR:ArRes all hot r R):ArRes all hot (k :: r) (.cons h K R)
theorem ArRes.app {all:List ArN} {hot a b:List Nat} {A B:Tr} (ha:ArRes all hot a A) (hb:ArRes all hot b B):ArRes all hot (a ++ b) (A.app B):=by
 induction ha with
 | nil=>exact hb
 | cons hk hn hK _ _ ih=>exact .cons hk hn hK ih
theorem ArRes.cool {all:List ArN} {hot hot':List Nat} {ks:List Nat} {T:Tr} (h:ArRes all hot ks T) (hs:∀ k,k ∈ hot' -> k ∈ hot):ArRes all hot' ks T:=by
 induction h with
 | nil=>exact .nil
 | cons hk hn _ _ ihK ihR=>exact .cons hk (fun e=>hn (hs _ e)) ihK ihR
theorem ArRes.heat {all:List ArN} {hot hot':List Nat} {ks:List Nat} {T:Tr} (h:ArRes all hot ks T) (hs:∀ k,k ∈ hot' -> k ∈ hot \/ all.length <= k):ArRes all hot' ks T:=by
 induction h with
 | nil=>exact .nil
 | cons hk hn _ _ ihK ihR =>
  refine .cons hk (fun e=>?_) ihK ihR;rcases hs _ e with h1 | h1
  ·exact hn h1
  ·have:=(List.getElem?_eq_some_iff.1 hk).1;omega
theorem ArRes.keep {all all':List ArN} {hot:List Nat} {ks:List Nat} {T:Tr} (h:ArRes all hot ks T) (hs:∀ k p,k ∉ hot -> all[k]? = some p -> all'[k]? = some p):ArRes all' hot ks T:=by
 induction h with
 | nil=>exact .nil
 | cons hk hn _ _ ihK ihR=>exact .cons (hs _ _ hn hk) hn ihK ihR
theorem ArRes.one {all:List ArN} {hot:List Nat} {k:Nat} {h:NdH} {ks:List Nat} {K:Tr} (hk:all[k]? = some (h,ks)) (hn:k ∉ hot) (hK:ArRes all hot ks K):ArRes all hot [k] (.cons h K .nil):=.cons hk hn hK .nil
theorem ArRes.len {all:List ArN} {hot ks:List Nat} {T:Tr} (h:ArRes all hot ks T):ks.length = T.len:=by
 induction h with
 | nil=>rfl
 | cons hk hn _ _ _ ihR=>simp [Tr.len,ihR]
theorem ArRes.at {all:List ArN} {hot ks:List Nat} {T:Tr} (h:ArRes all hot ks T) {i k:Nat} (hi:ks[i]? = some k):∃ f K ls,T.list[i]? = some (f,K) /\ all[k]? = some (f,ls) /\ k ∉ hot /\ ArRes all hot ls K:=by
 induction h generalizing i with
 | nil=>simp at hi
 | cons hk hn hK _ _ ihR =>
  cases i with
  | zero =>
   simp only [List.getElem?_cons_zero,Option.some.injEq] at hi;subst hi;exact ⟨_,_,_,rfl,hk,hn,hK⟩
  | succ i =>
   rw [List.getElem?_cons_succ] at hi;obtain ⟨f,K,ls,h1,h2⟩:=ihR hi;exact ⟨f,K,ls,by rw [Tr.list,List.getElem?_cons_succ];exact h1,h2⟩
theorem ArRes.last {all:List ArN} {hot ks:List Nat} {l:List (NdH × Tr)} (h:ArRes all hot ks (Tr.of l)) {k:Nat} (hk:ks.getLast? = some k):∃ q ls,l.getLast? = some q /\ all[k]? = some (q.1,ls):=by
 rw [List.getLast?_eq_getElem?] at hk;obtain ⟨f,K,ls,h1,h2,_⟩:=h.at hk;have hl:=h.len;rw [Tr.len_of] at hl;rw [Tr.list_of,hl] at h1;exact ⟨(f,K),ls,by rw [List.getLast?_eq_getElem?];exact h1,h2⟩
def ArPart (all:List ArN) (hot:List Nat) (o:Nat) (p:PartL) (tl nx:List Nat):Prop :=
  ∃ ks,all[o]? = some (⟨p.name,p.attrs,[]⟩,ks ++ tl ++ nx) /\ ArRes all hot ks (Tr.of p.kids)
structure ArOK (all:List ArN) (opn:List Nat) (s:BsL):Prop where
  len:all.length = s.2 + 1
  few:s.2 <= 5000
  ne:s.1 ≠ []
  dep:opn.length = s.1.length
  root:opn[0]? = some 0
  tails:∀ p ∈ s.1.tail,p.tail = []
  names:∀ p ∈ s.1.dropLast,p.name ≠ []
  last:∀ p r,s.1 = p :: r -> ∀ q,p.kids.getLast? = some q -> q.1.name ≠ []
  hot:∃ tl:List Nat,(∀ p r,s.1 = p :: r -> (p.tail = [] /\ tl = []) \/ ∃ t,p.tail ≠ [] /\ tl = [t] /\ t ∉ opn /\ all[t]? = some (⟨[],[],p.tail⟩,[])) /\
    opn.Nodup /\ (∀ o ∈ opn,o < all.length) /\
    ∀ i o p,opn[i]? = some o -> s.1[s.1.length - 1 - i]? = some p -> ArPart all (opn ++ tl) o p (if i + 1 = opn.length then tl else []) (opn.drop (i + 1) |>.take 1)
theorem arOK_start:ArOK [(⟨[],[],[]⟩,[])] [0] ([rootL],0):=by
 refine ⟨rfl,by decide,by simp,rfl,rfl,(fun p hp=>by cases hp),(fun p hp=>by cases hp),(fun p r e q hq=>by injection e with e _;subst e;cases hq),[],fun p r e=>?_,by simp,(fun o ho=>by simp at ho;subst ho;decide),fun i o p ho hp=>?_⟩
 ·injection e with e _;subst e;exact .inl ⟨rfl,rfl⟩
 ·match i,ho with
  | 0,ho =>
   injection ho with ho;subst ho;injection hp with hp;subst hp;exact ⟨[],rfl,.nil⟩
  | i + 1,ho=>simp at ho
def arGrow (all:List ArN) (t:Nat) (x:List UInt8):List ArN:=all.modify t (fun p=>(⟨p.1.name,p.1.attrs,p.1.text ++ x⟩,p.2))
def arPut (all:List ArN) (a:Nat) (h:NdH):List ArN:=(all ++ [(h,[])]).modify a (fun p=>(p.1,p.2 ++ [all.length]))
theorem arGrow_other {all:List ArN} {t k:Nat} {x:List UInt8} (h:k ≠ t):(arGrow all t x)[k]? = all[k]?:=by
 unfold arGrow;have:¬ t = k:=fun e=>h e.symm
 simp [List.getElem?_modify,this]
theorem arGrow_at {all:List ArN} {t:Nat} {x:List UInt8} {p:ArN} (h:all[t]? = some p):(arGrow all t x)[t]? = some (⟨p.1.name,p.1.attrs,p.1.text ++ x⟩,p.2):=by
 unfold arGrow;simp [List.getElem?_modify,h]
theorem arGrow_len (all:List ArN) (t:Nat) (x:List UInt8):(arGrow all t x).length = all.length:=by unfold arGrow;simp
theorem arPut_other {all:List ArN} {a k:Nat} {h:NdH} (hk:k ≠ a) (hl:k < all.length):(arPut all a h)[k]? = all[k]?:=by
 unfold arPut;have:¬ a = k:=fun e=>hk e.symm
 simp [List.getElem?_modify,this,List.getElem?_append_left hl]
theorem arPut_at {all:List ArN} {a:Nat} {h:NdH} {p:ArN} (hp:all[a]? = some p):(arPut all a h)[a]? = some (p.1,p.2 ++ [all.length]):=by
 have hl:=(List.getElem?_eq_some_iff.1 hp).1;unfold arPut;simp [List.getElem?_modify,List.getElem?_append_left hl,hp]
theorem arPut_new {all:List ArN} {a:Nat} {h:NdH} (ha:a < all.length):(arPut all a h)[all.length]? = some (h,[]):=by
 unfold arPut;have:¬ a = all.length:=by omega
 simp [List.getElem?_modify,this]
theorem arPut_len (all:List ArN) (a:Nat) (h:NdH):(arPut all a h).length = all.length + 1:=by unfold arPut;simp
theorem ArRes.grow {all:List ArN} {hot ks:List Nat} {T:Tr} {t:Nat} {x:List UInt8} (h:ArRes all hot ks T) (ht:t ∈ hot):ArRes (arGrow all t x) hot ks T :=
 h.keep (fun k p hk hp=>by rw [arGrow_other (fun e=>hk (by rw [e];exact ht))];exact hp)
theorem ArRes.put {all:List ArN} {hot ks:List Nat} {T:Tr} {a:Nat} {n:NdH} (h:ArRes all hot ks T) (ha:a ∈ hot):ArRes (arPut all a n) hot ks T :=
 h.keep (fun k p hk hp=>by rw [arPut_other (fun e=>hk (by rw [e];exact ha)) (List.getElem?_eq_some_iff.1 hp).1];exact hp)
theorem ArOK.inner {all:List ArN} {opn:List Nat} {p:PartL} {r:List PartL} {n:Nat} (h:ArOK all opn (p :: r,n)):∃ a tl ks,opn[opn.length - 1]? = some a /\ a < all.length /\ all[a]? = some (⟨p.name,p.attrs,[]⟩,ks ++ tl) /\ ArRes all (opn ++ tl) ks (Tr.of p.kids) /\ ((p.tail = [] /\ tl = []) \/ ∃ t,p.tail ≠ [] /\ tl = [t] /\ t ∉ opn /\ all[t]? = some (⟨[],[],p.tail⟩,[])):=by
 obtain ⟨tl,h1,h2,h3,h4⟩:=h.hot;have hd:=h.dep;simp only [List.length_cons] at hd;obtain ⟨a,ha⟩:∃ a,opn[opn.length - 1]? = some a:=⟨_,List.getElem?_eq_getElem (by omega)⟩
 obtain ⟨ks,k1,k2⟩:=h4 (opn.length - 1) a p ha (by simp [hd]);have e1:opn.length - 1 + 1 = opn.length:=by omega
 rw [if_pos e1,e1,List.drop_length,List.take_nil,List.append_nil] at k1;exact ⟨a,tl,ks,ha,h3 a (List.mem_of_getElem? ha),k1,k2,h1 p r rfl⟩
theorem arOK_growT {all:List ArN} {opn:List Nat} {p:PartL} {r:List PartL} {n t:Nat} {x:List UInt8} (h:ArOK all opn (p :: r,n)) (hp:p.tail ≠ []) (ht:t ∉ opn)
  (h2:opn.Nodup) (h3:∀ o ∈ opn,o < all.length)
  (h4:∀ i o q,opn[i]? = some o -> (p :: r)[(p :: r).length - 1 - i]? = some q -> ArPart all (opn ++ [t]) o q (if i + 1 = opn.length then [t] else []) (opn.drop (i + 1) |>.take 1)) (hat:all[t]? = some (⟨[],[],p.tail⟩,[])) :
  ArOK (arGrow all t x) opn ({ p with tail:=p.tail ++ x } :: r,n):=by
 refine ⟨by rw [arGrow_len];exact h.len,h.few,by simp,by have:=h.dep;simpa using this,h.root,h.tails,fun q hq=>?_,fun q r' e q' hq'=>?_,[t],fun q r' e=>?_,h2,fun o ho=>by rw [arGrow_len];exact h3 o ho,fun i o q ho hq=>?_⟩
 ·cases r with
  | nil=>cases hq
  | cons q0 r0 =>
   simp only [List.dropLast_cons_cons,List.mem_cons] at hq;rcases hq with rfl | hq
   ·exact h.names p (by simp)
   ·exact h.names q (by simp only [List.dropLast_cons_cons,List.mem_cons];exact .inr hq)
 ·injection e with e1 e2;subst e1;exact h.last p r rfl q' hq'
 ·injection e with e1 e2;subst e1;exact .inr ⟨t,by simp [hp],rfl,ht,arGrow_at hat⟩
 ·have hne:o ≠ t:=fun e=>ht (by rw [<- e];exact List.mem_of_getElem? ho)
  have key:∀ q',(p :: r)[(p :: r).length - 1 - i]? = some q' -> q'.name = q.name -> q'.attrs = q.attrs -> q'.kids = q.kids -> ArPart (arGrow all t x) (opn ++ [t]) o q (if i + 1 = opn.length then [t] else []) (opn.drop (i + 1) |>.take 1):=by
   intro q' hq' e1 e2 e3;obtain ⟨ks,k1,k2⟩:=h4 i o q' ho hq';rw [e1,e2] at k1;rw [e3] at k2;exact ⟨ks,by rw [arGrow_other hne];exact k1,k2.grow (by simp)⟩
  simp only [List.length_cons] at hq;cases hj:r.length + 1 - 1 - i with
  | zero =>
   rw [hj] at hq;injection hq with hq;subst hq;exact key p (by simp only [List.length_cons];rw [hj];rfl) rfl rfl rfl
  | succ j =>
   rw [hj,List.getElem?_cons_succ] at hq;exact key q (by simp only [List.length_cons];rw [hj,List.getElem?_cons_succ];exact hq) rfl rfl rfl
theorem ArOK.growing {all:List ArN} {opn:List Nat} {p:PartL} {r:List PartL} {n:Nat} (h:ArOK all opn (p :: r,n)) (hp:p.tail ≠ []):∃ a t ks,opn[opn.length - 1]? = some a /\ a < all.length /\ all[a]? = some (⟨p.name,p.attrs,[]⟩,ks ++ [t]) /\ ks.length = p.kids.length /\ all[t]? = some (⟨[],[],p.tail⟩,[]) /\ ∀ x,ArOK (arGrow all t x) opn ({ p with tail:=p.tail ++ x } :: r,n):=by
 obtain ⟨tl,h1,h2,h3,h4⟩:=h.hot;have hd:=h.dep;simp only [List.length_cons] at hd;obtain ⟨a,ha⟩:∃ a,opn[opn.length - 1]? = some a:=⟨_,List.getElem?_eq_getElem (by omega)⟩
 obtain ⟨ks,k1,k2⟩:=h4 (opn.length - 1) a p ha (by simp [hd]);have e1:opn.length - 1 + 1 = opn.length:=by omega
 rw [if_pos e1,e1,List.drop_length,List.take_nil,List.append_nil] at k1;rcases h1 p r rfl with ⟨e,_⟩ | ⟨t,_,e,e2,e3⟩
 ·exact absurd e hp
 ·subst e;exact ⟨a,t,ks,ha,h3 a (List.mem_of_getElem? ha),k1,by rw [k2.len,Tr.len_of],e3,fun x=>arOK_growT h hp e2 h2 h3 h4 e3⟩
theorem arOK_text {all:List ArN} {opn:List Nat} {p:PartL} {r:List PartL} {n a:Nat} {x:List UInt8} (h:ArOK all opn (p :: r,n)) (hp:p.tail = []) (hx:x ≠ []) (hn:n ≠ 5000) (ha:opn[opn.length - 1]? = some a) :
  ArOK (arPut all a ⟨[],[],x⟩) opn ({ p with tail:=x } :: r,n + 1):=by
 obtain ⟨tl,h1,h2,h3,h4⟩:=h.hot
 have e:tl = []:=by
  rcases h1 p r rfl with ⟨_,e⟩ | ⟨t,e,_⟩
  ·exact e
  ·exact absurd hp e
 subst e;have hl:=h.len;have hf:=h.few;have hd:=h.dep;simp only at hl hf;simp only [List.length_cons] at hd;have ham:a ∈ opn:=List.mem_of_getElem? ha;have hal:=h3 a ham;refine ⟨by rw [arPut_len,hl],by show n + 1 <= 5000;omega,by simp,by simpa using hd,h.root,h.tails,fun q hq=>?_,fun q r' e q' hq'=>?_,[all.length],fun q r' e=>?_,h2,fun o ho=>by rw [arPut_len];have:=h3 o ho;omega,fun i o q ho hq=>?_⟩
 ·cases r with
  | nil=>cases hq
  | cons q0 r0 =>
   simp only [List.dropLast_cons_cons,List.mem_cons] at hq;rcases hq with rfl | hq
   ·exact h.names p (by simp)
   ·exact h.names q (by simp only [List.dropLast_cons_cons,List.mem_cons];exact .inr hq)
 ·injection e with e1 e2;subst e1;exact h.last p r rfl q' hq'
 ·injection e with e1 e2;subst e1;exact .inr ⟨all.length,hx,rfl,fun e=>by have:=h3 _ e;omega,arPut_new hal⟩
 ·have key:∀ q',(p :: r)[(p :: r).length - 1 - i]? = some q' -> q'.name = q.name -> q'.attrs = q.attrs -> q'.kids = q.kids -> ArPart (arPut all a ⟨[],[],x⟩) (opn ++ [all.length]) o q (if i + 1 = opn.length then [all.length] else []) (opn.drop (i + 1) |>.take 1):=by
   intro q' hq' e1 e2 e3;obtain ⟨ks,k1,k2⟩:=h4 i o q' ho hq';rw [e1,e2] at k1;rw [e3] at k2
   have k3:ArRes (arPut all a ⟨[],[],x⟩) (opn ++ [all.length]) ks (Tr.of q.kids):=(k2.heat (hot':=opn ++ [all.length]) (fun k hk=>by
    rcases List.mem_append.1 hk with hk | hk
    ·exact .inl (by simpa using hk)
    ·rw [List.mem_singleton] at hk;exact .inr (by omega))).put (by simp [ham])
   by_cases hi:i + 1 = opn.length
   ·have ho2:o = a:=by
     have:i = opn.length - 1:=by omega
     rw [this,ha] at ho;injection ho with ho;exact ho.symm
    subst ho2;rw [if_pos hi,hi,List.drop_length,List.take_nil,List.append_nil,List.append_nil] at k1;refine ⟨ks,?_,k3⟩;rw [if_pos hi,hi,List.drop_length,List.take_nil,List.append_nil,arPut_at k1]
   ·have hne:o ≠ a:=fun e=>hi (by
     have hil:i < opn.length:=(List.getElem?_eq_some_iff.1 ho).1;have:=(List.getElem?_inj hil h2).1 (show opn[i]? = opn[opn.length - 1]? by rw [ho,ha,e]);omega)
    refine ⟨ks,?_,k3⟩;rw [if_neg hi] at k1 ⊢;rw [arPut_other hne (h3 o (List.mem_of_getElem? ho))];exact k1
  simp only [List.length_cons] at hq;cases hj:r.length + 1 - 1 - i with
  | zero =>
   rw [hj] at hq;injection hq with hq;subst hq;exact key p (by simp only [List.length_cons];rw [hj];rfl) rfl rfl rfl
  | succ j =>
   rw [hj,List.getElem?_cons_succ] at hq;exact key q (by simp only [List.length_cons];rw [hj,List.getElem?_cons_succ];exact hq) rfl rfl rfl
theorem ArRes.of_app {all:List ArN} {hot a b:List Nat} {A B:List (NdH × Tr)} (ha:ArRes all hot a (Tr.of A)) (hb:ArRes all hot b (Tr.of B)):ArRes all hot (a ++ b) (Tr.of (A ++ B)):=by
 have e:Tr.of (A ++ B) = (Tr.of A).app (Tr.of B):=by
  apply Tr.list_inj;rw [Tr.list_of,Tr.list_app,Tr.list_of,Tr.list_of]
 rw [e];exact ha.app hb
theorem arOK_close {all:List ArN} {opn:List Nat} {p q:PartL} {r:List PartL} {n:Nat} (h:ArOK all opn (p :: q :: r,n)):ArOK all opn.dropLast (closeTop (p :: q :: r),n):=by
 obtain ⟨a,tl,ks,ha,hal,hat,hks,htl⟩:=h.inner;obtain ⟨tl',h1,h2,h3,h4⟩:=h.hot;have hd:=h.dep;simp only [List.length_cons] at hd;have hlen:opn.dropLast.length = r.length + 1:=by rw [List.length_dropLast];omega
 have hpn:p.name ≠ []:=h.names p (by simp);have hqt:q.tail = []:=h.tails q (by simp)
 have hget:∀ i,i < r.length + 1 -> opn.dropLast[i]? = opn[i]?:=fun i hi=>by
  rw [List.getElem?_dropLast,if_pos (by omega)]
 have hsub:∀ k,k ∈ opn.dropLast -> k ∈ opn:=fun k hk=>(List.dropLast_sublist opn).subset hk
 have hna:a ∉ opn.dropLast:=fun hm=>by
  obtain ⟨i,hi⟩:=List.getElem?_of_mem hm;have hil:i < r.length + 1:=by have:=(List.getElem?_eq_some_iff.1 hi).1;omega
  rw [hget i hil] at hi;have:=(List.getElem?_inj (by omega) h2).1 (show opn[i]? = opn[opn.length - 1]? by rw [hi,ha]);omega
 have hfin:ArRes all opn.dropLast (ks ++ tl) (Tr.of (endTextL p).kids):=by
  have k1:ArRes all opn.dropLast ks (Tr.of p.kids):=hks.cool (fun k hk=>by simp [hsub k hk]);unfold endTextL;rcases htl with ⟨e1,e2⟩ | ⟨t,e1,e2,e3,e4⟩
  ·rw [if_pos e1,e2,List.append_nil];exact k1
  ·rw [if_neg e1,e2];exact k1.of_app (B:=[textNd p.tail]) (.one e4 (fun hm=>e3 (hsub t hm)) .nil)
 have hnode:ArRes all opn.dropLast [a] (Tr.of [(endTextL p).node]):=by
  have e:(endTextL p).node = (⟨p.name,p.attrs,[]⟩,Tr.of (endTextL p).kids):=by
   unfold PartL.node endTextL;split <;> rfl
  rw [e];exact .one hat hna hfin
 refine ⟨h.len,h.few,by simp [closeTop],by simp only [closeTop,List.length_cons];omega,by rw [hget 0 (by omega)];exact h.root,fun z hz=>h.tails z (by simp only [closeTop,List.tail_cons] at hz ⊢;exact List.mem_cons_of_mem _ hz),fun z hz=>?_,fun z r' e z' hz'=>?_,[],fun z r' e=>?_,?_,fun o ho=>h3 o (hsub o ho),fun i o z ho hz=>?_⟩
 ·simp only [closeTop] at hz;cases r with
  | nil=>cases hz
  | cons q0 r0 =>
   simp only [List.dropLast_cons_cons,List.mem_cons] at hz;rcases hz with rfl | hz
   ·exact h.names q (by simp)
   ·exact h.names z (by simp only [List.dropLast_cons_cons,List.mem_cons];exact .inr (.inr hz))
 ·simp only [closeTop] at e;injection e with e1 e2;subst e1;simp only [List.getLast?_concat,Option.some.injEq] at hz';subst hz';show (endTextL p).name ≠ []
  unfold endTextL;split <;> exact hpn
 ·simp only [closeTop] at e;injection e with e1 e2;subst e1;exact .inl ⟨hqt,rfl⟩
 ·exact h2.sublist (List.dropLast_sublist _)
 ·simp only [closeTop,List.length_cons] at hz;have hil:i < r.length + 1:=by have:=(List.getElem?_eq_some_iff.1 ho).1;omega
  rw [hget i hil] at ho;rw [List.append_nil];cases hj:r.length + 1 - 1 - i with
  | zero =>
   have hi:i = r.length:=by omega
   rw [hj] at hz;injection hz with hz;subst hz;obtain ⟨kq,k1,k2⟩:=h4 i o q ho (by simp only [List.length_cons];rw [show r.length + 1 + 1 - 1 - i = 1 by omega];rfl)
   have hdr:(opn.drop (i + 1)).take 1 = [a]:=by
    rw [show i + 1 = opn.length - 1 by omega,List.drop_eq_getElem_cons (by omega),List.take_succ_cons,List.take_zero];rw [List.getElem?_eq_getElem (by omega)] at ha;rw [Option.some.inj ha]
   rw [if_neg (by omega),List.append_nil,hdr] at k1;have hdd:(opn.dropLast.drop (i + 1)).take 1 = []:=by rw [List.drop_eq_nil_of_le (by omega)];rfl
   refine ⟨kq ++ [a],?_,(k2.cool (fun k hk=>by simp [hsub k hk])).of_app hnode⟩;rw [hdd]
   simpa using k1
  | succ j =>
   rw [hj,List.getElem?_cons_succ] at hz
   obtain ⟨kq,k1,k2⟩:=h4 i o z ho (by
    simp only [List.length_cons];rw [show r.length + 1 + 1 - 1 - i = j + 1 + 1 by omega,List.getElem?_cons_succ,List.getElem?_cons_succ];exact hz)
   have hdd:(opn.dropLast.drop (i + 1)).take 1 = (opn.drop (i + 1)).take 1:=by
    apply List.ext_getElem?;intro m;rw [List.getElem?_take,List.getElem?_take];split
    ·rw [List.getElem?_drop,List.getElem?_drop,hget _ (by omega)]
    ·rfl
   rw [if_neg (by omega)] at k1;refine ⟨kq,?_,k2.cool (fun k hk=>by simp [hsub k hk])⟩;rw [hdd]
   simpa using k1
theorem endTextL_tail (p:PartL):(endTextL p).tail = []:=by
 unfold endTextL;split
 ·assumption
 ·rfl
theorem endTextL_name (p:PartL):(endTextL p).name = p.name /\ (endTextL p).attrs = p.attrs:=by unfold endTextL;split <;> exact ⟨rfl,rfl⟩
theorem ArRes.shut {all:List ArN} {opn tl ks:List Nat} {p:PartL} (hks:ArRes all (opn ++ tl) ks (Tr.of p.kids)) (htl:(p.tail = [] /\ tl = []) \/ ∃ t,p.tail ≠ [] /\ tl = [t] /\ t ∉ opn /\ all[t]? = some (⟨[],[],p.tail⟩,[])):ArRes all opn (ks ++ tl) (Tr.of (endTextL p).kids):=by
 have k1:ArRes all opn ks (Tr.of p.kids):=hks.cool (fun k hk=>by simp [hk]);unfold endTextL;rcases htl with ⟨e1,e2⟩ | ⟨t,e1,e2,e3,e4⟩
 ·rw [if_pos e1,e2,List.append_nil];exact k1
 ·rw [if_neg e1,e2];exact k1.of_app (B:=[textNd p.tail]) (.one e4 e3 .nil)
theorem arOK_void {all:List ArN} {opn:List Nat} {p:PartL} {r:List PartL} {n a:Nat} {nm:List UInt8} {at':List AtL} (h:ArOK all opn (p :: r,n)) (hn:n ≠ 5000) (hnm:nm ≠ []) (ha:opn[opn.length - 1]? = some a) :
  ArOK (arPut all a ⟨nm,at',[]⟩) opn ({ endTextL p with kids:=(endTextL p).kids ++ [(⟨nm,at',[]⟩,Tr.nil)] } :: r,n + 1):=by
 obtain ⟨tl,h1,h2,h3,h4⟩:=h.hot;have hl:=h.len;have hf:=h.few;have hd:=h.dep;simp only at hl hf;simp only [List.length_cons] at hd;have ham:a ∈ opn:=List.mem_of_getElem? ha;have hal:=h3 a ham;have hln:all.length ∉ opn:=fun e=>by have:=h3 _ e;omega
 refine ⟨by rw [arPut_len,hl],by show n + 1 <= 5000;omega,by simp,by simpa using hd,h.root,h.tails,fun q hq=>?_,fun q r' e q' hq'=>?_,[],fun q r' e=>?_,h2,fun o ho=>by rw [arPut_len];have:=h3 o ho;omega,fun i o q ho hq=>?_⟩
 ·cases r with
  | nil=>cases hq
  | cons q0 r0 =>
   simp only [List.dropLast_cons_cons,List.mem_cons] at hq;rcases hq with rfl | hq
   ·rw [(endTextL_name p).1];exact h.names p (by simp)
   ·exact h.names q (by simp only [List.dropLast_cons_cons,List.mem_cons];exact .inr hq)
 ·injection e with e1 e2;subst e1;simp only [List.getLast?_concat,Option.some.injEq] at hq';subst hq';exact hnm
 ·injection e with e1 e2;subst e1;exact .inl ⟨endTextL_tail p,rfl⟩
 ·rw [List.append_nil];simp only [List.length_cons] at hq;cases hj:r.length + 1 - 1 - i with
  | zero =>
   have hil:i < opn.length:=(List.getElem?_eq_some_iff.1 ho).1;have hi:i = opn.length - 1:=by omega
   rw [hj] at hq;injection hq with hq;subst hq;have hoa:o = a:=by rw [hi,ha] at ho;injection ho with ho;exact ho.symm
   subst hoa;obtain ⟨ks,k1,k2⟩:=h4 i o p ho (by simp only [List.length_cons];rw [hj];rfl);have e1:i + 1 = opn.length:=by omega
   rw [if_pos e1,e1,List.drop_length,List.take_nil,List.append_nil] at k1;rw [if_pos e1,e1,List.drop_length,List.take_nil];refine ⟨ks ++ tl ++ [all.length],?_,?_⟩
   ·rw [arPut_at k1,List.append_nil,List.append_nil];simp only [(endTextL_name p).1,(endTextL_name p).2]
   ·exact ((k2.shut (h1 p r rfl)).put ham).of_app (B:=[(⟨nm,at',[]⟩,Tr.nil)]) (.one (arPut_new hal) hln .nil)
  | succ j =>
   have hil:i < opn.length:=(List.getElem?_eq_some_iff.1 ho).1;rw [hj,List.getElem?_cons_succ] at hq;have hi:¬ i + 1 = opn.length:=by omega
   have hne:o ≠ a:=fun e=>hi (by
    have:=(List.getElem?_inj hil h2).1 (show opn[i]? = opn[opn.length - 1]? by rw [ho,ha,e]);omega)
   obtain ⟨ks,k1,k2⟩:=h4 i o q ho (by simp only [List.length_cons];rw [hj,List.getElem?_cons_succ];exact hq);rw [if_neg hi] at k1;refine ⟨ks,?_,(k2.cool (fun k hk=>by simp [hk])).put ham⟩;rw [arPut_other hne (h3 o (List.mem_of_getElem? ho))]
   simpa using k1
theorem arOK_open {all:List ArN} {opn:List Nat} {p:PartL} {r:List PartL} {n a:Nat} {nm:List UInt8} {at':List AtL} (h:ArOK all opn (p :: r,n)) (hn:n ≠ 5000) (hnm:nm ≠ []) (ha:opn[opn.length - 1]? = some a) :
  ArOK (arPut all a ⟨nm,at',[]⟩) (opn ++ [all.length]) (⟨nm,at',[],[]⟩ :: endTextL p :: r,n + 1):=by
 obtain ⟨tl,h1,h2,h3,h4⟩:=h.hot;have hl:=h.len;have hf:=h.few;have hd:=h.dep;have hr0:=h.root;simp only at hl hf;simp only [List.length_cons] at hd;have ham:a ∈ opn:=List.mem_of_getElem? ha;have hal:=h3 a ham;have hln:all.length ∉ opn:=fun e=>by have:=h3 _ e;omega
 have hol:(opn ++ [all.length]).length = opn.length + 1:=by simp
 refine ⟨by rw [arPut_len,hl],by show n + 1 <= 5000;omega,by simp,by rw [hol];simp only [List.length_cons];omega,by rw [List.getElem?_append_left (by omega)];exact hr0,fun q hq=>?_,fun q hq=>?_,fun q r' e q' hq'=>?_,[],fun q r' e=>?_,?_,fun o ho=>?_,fun i o q ho hq=>?_⟩
 ·simp only [List.tail_cons,List.mem_cons] at hq;rcases hq with rfl | hq
  ·exact endTextL_tail p
  ·exact h.tails q (by simpa using hq)
 ·simp only [List.dropLast_cons_cons,List.mem_cons] at hq;rcases hq with rfl | hq
  ·exact hnm
  ·cases r with
   | nil=>cases hq
   | cons q0 r0 =>
    simp only [List.dropLast_cons_cons,List.mem_cons] at hq;rcases hq with rfl | hq
    ·rw [(endTextL_name p).1];exact h.names p (by simp)
    ·exact h.names q (by simp only [List.dropLast_cons_cons,List.mem_cons];exact .inr hq)
 ·injection e with e1 e2;subst e1;cases hq'
 ·injection e with e1 e2;subst e1;exact .inl ⟨rfl,rfl⟩
 ·refine List.nodup_append.2 ⟨h2,by simp,fun x hx y hy=>?_⟩;rw [List.mem_singleton] at hy;subst hy;exact fun e=>hln (by rw [<- e];exact hx)
 ·rw [arPut_len];rcases List.mem_append.1 ho with ho | ho
  ·have:=h3 o ho;omega
  ·rw [List.mem_singleton] at ho;omega
 ·rw [List.append_nil];simp only [List.length_cons] at hq
  have hheat:∀ {ks:List Nat} {T:Tr},ArRes all opn ks T -> ArRes (arPut all a ⟨nm,at',[]⟩) (opn ++ [all.length]) ks T:=fun hk=>(hk.heat (hot':=opn ++ [all.length]) (fun k hk=>by
   rcases List.mem_append.1 hk with hk | hk
   ·exact .inl hk
   ·rw [List.mem_singleton] at hk;exact .inr (by omega))).put (by simp [ham])
  have hil:i < opn.length + 1:=by have:=(List.getElem?_eq_some_iff.1 ho).1;omega
  by_cases hi0:i = opn.length
  ·subst hi0;rw [List.getElem?_append_right (Nat.le_refl _),Nat.sub_self] at ho;injection ho with ho;subst ho;rw [show r.length + 1 + 1 - 1 - opn.length = 0 by omega] at hq;injection hq with hq;subst hq;refine ⟨[],?_,.nil⟩;rw [arPut_new hal,List.drop_eq_nil_of_le (by omega)];simp
  ·rw [List.getElem?_append_left (by omega)] at ho;cases hj:r.length + 1 - 1 - i with
   | zero =>
    have hi:i = opn.length - 1:=by omega
    rw [show r.length + 1 + 1 - 1 - i = 0 + 1 by omega,List.getElem?_cons_succ] at hq;injection hq with hq;subst hq;have hoa:o = a:=by rw [hi,ha] at ho;injection ho with ho;exact ho.symm
    subst hoa;obtain ⟨ks,k1,k2⟩:=h4 i o p ho (by simp only [List.length_cons];rw [hj];rfl);have e1:i + 1 = opn.length:=by omega
    rw [if_pos e1,e1,List.drop_length,List.take_nil,List.append_nil] at k1;refine ⟨ks ++ tl,?_,hheat (k2.shut (h1 p r rfl))⟩;rw [if_neg (by omega),e1,List.drop_left' rfl,arPut_at k1];simp only [(endTextL_name p).1,(endTextL_name p).2,List.append_nil];rfl
   | succ j =>
    rw [show r.length + 1 + 1 - 1 - i = j + 1 + 1 by omega,List.getElem?_cons_succ,List.getElem?_cons_succ] at hq;have hi:¬ i + 1 = opn.length:=by omega
    have hne:o ≠ a:=fun e=>hi (by
     have:=(List.getElem?_inj (by omega) h2).1 (show opn[i]? = opn[opn.length - 1]? by rw [ho,ha,e]);omega)
    obtain ⟨ks,k1,k2⟩:=h4 i o q ho (by simp only [List.length_cons];rw [hj,List.getElem?_cons_succ];exact hq);rw [if_neg hi] at k1;refine ⟨ks,?_,hheat (k2.cool (fun k hk=>by simp [hk]))⟩;rw [if_neg (by omega),arPut_other hne (h3 o (List.mem_of_getElem? ho)),List.drop_append_of_le_length (by omega),List.take_append_of_le_length (by rw [List.length_drop];omega)]
    simpa using k1
theorem arOK_closeN {all:List ArN} {n:Nat}:∀ (m:Nat) (opn:List Nat) (st:List PartL),ArOK all opn (st,n) -> m < st.length -> ArOK all (opn.take (opn.length - m)) (closeN m st,n)
 | 0,opn,st,h,_=>by rw [Nat.sub_zero,List.take_length];exact h
 | m + 1,opn,st,h,hm=>by
  match st,h,hm with
  | [p],h,hm=>simp at hm
  | p :: q :: r,h,hm =>
   have h1:=arOK_close h;have h2:=arOK_closeN m _ _ h1 (by simp only [closeTop,List.length_cons] at hm ⊢;omega)
   have e:opn.dropLast.take (opn.dropLast.length - m) = opn.take (opn.length - (m + 1)):=by
    rw [List.dropLast_eq_take,List.take_take,List.length_take]
    congr 1
    omega
   rw [e] at h2;exact h2
theorem arOK_end {all:List ArN} {opn:List Nat} {st:List PartL} {n:Nat} (h:ArOK all opn (st,n)):∃ h' ks hot,all[0]? = some (h',ks) /\ ArRes all hot ks (endTree st):=by
 have hne:=h.ne;have hpos:0 < st.length:=List.length_pos_iff.2 hne;have h1:=arOK_closeN (st.length - 1) opn st h (by omega);have hlen:=closeN_length (st.length - 1) st (by omega);have h2:=h.dep;simp only at h2;obtain ⟨p,hp⟩:∃ p,closeN (st.length - 1) st = [p]:=List.length_eq_one_iff.1 (by rw [hlen];omega);rw [hp] at h1;obtain ⟨a,tl,ks,ha,_,hat,hks,htl⟩:=h1.inner;have hr:=h1.root;have hd:=h1.dep;simp only [List.length_cons,List.length_nil] at hd;rw [hd] at ha;rw [show (0 + 1 - 1:Nat) = 0 from rfl,hr] at ha;injection ha with ha;subst ha;have he:endTree st = Tr.of (endTextL p).kids:=by unfold endTree;rw [hp]
 exact ⟨_,_,List.take (opn.length - (st.length - 1)) opn,hat,by rw [he];exact hks.shut htl⟩
theorem ArOK.node {all:List ArN} {opn:List Nat} {s:BsL} (h:ArOK all opn s) {i o:Nat} {p:PartL} (ho:opn[i]? = some o) (hp:s.1[s.1.length - 1 - i]? = some p):∃ ls,all[o]? = some (⟨p.name,p.attrs,[]⟩,ls):=by
 obtain ⟨tl,_,_,_,h4⟩:=h.hot;obtain ⟨ks,k1,_⟩:=h4 i o p ho hp;exact ⟨_,k1⟩
def backF (is:List UInt8 -> Bool) (nm:Nat -> List UInt8):Nat -> Nat
  | 0=>0
  | i + 1=>if is (nm (i + 1)) = true then i + 1 else if wallB (nm (i + 1)) = true then 0 else backF is nm i
theorem backF_le (is:List UInt8 -> Bool) (nm:Nat -> List UInt8):∀ i,backF is nm i <= i
 | 0=>Nat.le_refl _
 | i + 1=>by
  simp only [backF];split
  ·exact Nat.le_refl _
  ·split
   ·omega
   ·have:=backF_le is nm i;omega
theorem back_find (is:List UInt8 -> Bool) (nm:Nat -> List UInt8):∀ st:List PartL,(∀ i,i < st.length -> ∃ p,st[st.length - 1 - i]? = some p /\ nm i = p.name) ->
  findP is st = if backF is nm (st.length - 1) = 0 then none else some (st.length - backF is nm (st.length - 1))
 | [],_=>rfl
 | [p],_=>rfl
 | p :: q :: r,h=>by
  have ih:=back_find is nm (q :: r) (fun i hi=>by
   obtain ⟨z,h1,h2⟩:=h i (by simp only [List.length_cons] at hi ⊢;omega);refine ⟨z,?_,h2⟩;simp only [List.length_cons] at hi h1 ⊢;rw [show r.length + 1 + 1 - 1 - i = (r.length + 1 - 1 - i) + 1 by omega,List.getElem?_cons_succ] at h1;exact h1)
  obtain ⟨z,h1,h2⟩:=h (r.length + 1) (by simp);simp only [List.length_cons] at h1;rw [show r.length + 1 + 1 - 1 - (r.length + 1) = 0 by omega] at h1;injection h1 with h1;subst h1;have hb:=backF_le is nm r.length;simp only [List.length_cons,Nat.add_sub_cancel] at ih ⊢;rw [findP,ih,backF,h2];split
  ·rw [if_neg (by omega)];congr 1;omega
  ·split
   ·rfl
   ·split
    ·rfl
    ·simp only [Option.map_some];congr 1;omega
end Go.Proofs.YtiejmkjpgjbodaaGreatDoor
