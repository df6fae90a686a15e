import Derived.Test.YtiejmkjpgjbodaaGreatDoorBaseO
import Derived.Test.YtiejmkjpgjbodaaGreatDoorRefClean
namespace Go.Proofs.YtiejmkjpgjbodaaGreatDoor
open Go.RowKit
set_option linter.unusedVariables false
set_option linter.unusedSimpArgs false
set_option maxRecDepth 100000 in
set_option maxHeartbeats 4000000 in
theorem refKnown_any (s:ByteArray) (w:World) (hs:s.size <= 70368744177664) :
  Calls Tryz.prog 206 #[.string s] w fun e w'=>e = .returned (knownV (kindL s.data.toList)) /\ Below w.heap.size w w':=by
 obtain ⟨x,hx⟩:∃ x,x = cleanL s.data.toList:=⟨_,rfl⟩
 obtain ⟨X,hX⟩:∃ X,X = str x:=⟨_,rfl⟩
 have HX:Hid (str (cleanL s.data.toList) = X):=hide (by rw [hX,hx]);have hk:kindL s.data.toList = kindOf x:=by rw [hx];rfl
 rw [hk];have HXX:=hide hX
 have HSZ:Hid ((str (Lib.trimS s.data.toList whiteSet)).size <= 70368744177664):=hide (by
  rw [str_size];have h:=trimS_length s.data.toList whiteSet;rw [toList_length] at h;omega)
 clear hx hX hk
 by_cases h0:x = [117,116,102,45,56]
 ·have HV:Hid (knownV (kindOf x) = .tuple #[.string ⟨#[117,116,102,45,56]⟩,.bool true]):=hide (by rw [h0,show kindOf [117,116,102,45,56] = 1 from by decide +kernel];rfl);have t0:(X.toList == [117,116,102,45,56]) = true:=listT HXX.out h0;clear h0;go_enter Tryz.func206,Tryz.ntmps206;go_wp2_with fail;refine (clean_any s _ hs).mono ?_;rintro e w1 ⟨rfl,hbb⟩;rw [HX.out];go_wp2_with fail;go_ret2;exact ⟨by rw [HV.out];rfl,hbb⟩
 have t0:(X.toList == [117,116,102,45,56]) = false:=listF HXX.out h0
 by_cases h1:x = [117,116,102,56]
 ·have HV:Hid (knownV (kindOf x) = .tuple #[.string ⟨#[117,116,102,45,56]⟩,.bool true]):=hide (by rw [h1,show kindOf [117,116,102,56] = 1 from by decide +kernel];rfl);have t1:(X.toList == [117,116,102,56]) = true:=listT HXX.out h1;clear h0 h1;go_enter Tryz.func206,Tryz.ntmps206;go_wp2_with fail;refine (clean_any s _ hs).mono ?_;rintro e w1 ⟨rfl,hbb⟩;rw [HX.out];go_wp2_with fail;go_ret2;exact ⟨by rw [HV.out];rfl,hbb⟩
 have t1:(X.toList == [117,116,102,56]) = false:=listF HXX.out h1
 by_cases h2:x = [117,110,105,99,111,100,101,45,49,45,49,45,117,116,102,45,56]
 ·have HV:Hid (knownV (kindOf x) = .tuple #[.string ⟨#[117,116,102,45,56]⟩,.bool true]):=hide (by rw [h2,show kindOf [117,110,105,99,111,100,101,45,49,45,49,45,117,116,102,45,56] = 1 from by decide +kernel];rfl);have t2:(X.toList == [117,110,105,99,111,100,101,45,49,45,49,45,117,116,102,45,56]) = true:=listT HXX.out h2;clear h0 h1 h2;go_enter Tryz.func206,Tryz.ntmps206;go_wp2_with fail;refine (clean_any s _ hs).mono ?_;rintro e w1 ⟨rfl,hbb⟩;rw [HX.out];go_wp2_with fail;go_ret2;exact ⟨by rw [HV.out];rfl,hbb⟩
 have t2:(X.toList == [117,110,105,99,111,100,101,45,49,45,49,45,117,116,102,45,56]) = false:=listF HXX.out h2
 by_cases h3:x = [119,105,110,100,111,119,115,45,49,50,53,50]
 ·have HV:Hid (knownV (kindOf x) = .tuple #[.string ⟨#[119,105,110,100,111,119,115,45,49,50,53,50]⟩,.bool true]):=hide (by rw [h3,show kindOf [119,105,110,100,111,119,115,45,49,50,53,50] = 2 from by decide +kernel];rfl);have t3:(X.toList == [119,105,110,100,111,119,115,45,49,50,53,50]) = true:=listT HXX.out h3;clear h0 h1 h2 h3;go_enter Tryz.func206,Tryz.ntmps206;go_wp2_with fail;refine (clean_any s _ hs).mono ?_;rintro e w1 ⟨rfl,hbb⟩;rw [HX.out];go_wp2_with fail;go_ret2;exact ⟨by rw [HV.out];rfl,hbb⟩
 have t3:(X.toList == [119,105,110,100,111,119,115,45,49,50,53,50]) = false:=listF HXX.out h3
 by_cases h4:x = [99,112,49,50,53,50]
 ·have HV:Hid (knownV (kindOf x) = .tuple #[.string ⟨#[119,105,110,100,111,119,115,45,49,50,53,50]⟩,.bool true]):=hide (by rw [h4,show kindOf [99,112,49,50,53,50] = 2 from by decide +kernel];rfl);have t4:(X.toList == [99,112,49,50,53,50]) = true:=listT HXX.out h4;clear h0 h1 h2 h3 h4;go_enter Tryz.func206,Tryz.ntmps206;go_wp2_with fail;refine (clean_any s _ hs).mono ?_;rintro e w1 ⟨rfl,hbb⟩;rw [HX.out];go_wp2_with fail;go_ret2;exact ⟨by rw [HV.out];rfl,hbb⟩
 have t4:(X.toList == [99,112,49,50,53,50]) = false:=listF HXX.out h4
 by_cases h5:x = [117,115,45,97,115,99,105,105]
 ·have HV:Hid (knownV (kindOf x) = .tuple #[.string ⟨#[119,105,110,100,111,119,115,45,49,50,53,50]⟩,.bool true]):=hide (by rw [h5,show kindOf [117,115,45,97,115,99,105,105] = 2 from by decide +kernel];rfl);have t5:(X.toList == [117,115,45,97,115,99,105,105]) = true:=listT HXX.out h5;clear h0 h1 h2 h3 h4 h5;go_enter Tryz.func206,Tryz.ntmps206;go_wp2_with fail;refine (clean_any s _ hs).mono ?_;rintro e w1 ⟨rfl,hbb⟩;rw [HX.out];go_wp2_with fail;go_ret2;exact ⟨by rw [HV.out];rfl,hbb⟩
 have t5:(X.toList == [117,115,45,97,115,99,105,105]) = false:=listF HXX.out h5
 by_cases h6:x = [97,115,99,105,105]
 ·have HV:Hid (knownV (kindOf x) = .tuple #[.string ⟨#[119,105,110,100,111,119,115,45,49,50,53,50]⟩,.bool true]):=hide (by rw [h6,show kindOf [97,115,99,105,105] = 2 from by decide +kernel];rfl);have t6:(X.toList == [97,115,99,105,105]) = true:=listT HXX.out h6;clear h0 h1 h2 h3 h4 h5 h6;go_enter Tryz.func206,Tryz.ntmps206;go_wp2_with fail;refine (clean_any s _ hs).mono ?_;rintro e w1 ⟨rfl,hbb⟩;rw [HX.out];go_wp2_with fail;go_ret2;exact ⟨by rw [HV.out];rfl,hbb⟩
 have t6:(X.toList == [97,115,99,105,105]) = false:=listF HXX.out h6
 by_cases h7:x = [105,115,111,45,56,56,53,57,45,49]
 ·have HV:Hid (knownV (kindOf x) = .tuple #[.string ⟨#[119,105,110,100,111,119,115,45,49,50,53,50]⟩,.bool true]):=hide (by rw [h7,show kindOf [105,115,111,45,56,56,53,57,45,49] = 2 from by decide +kernel];rfl);have t7:(X.toList == [105,115,111,45,56,56,53,57,45,49]) = true:=listT HXX.out h7;clear h0 h1 h2 h3 h4 h5 h6 h7;go_enter Tryz.func206,Tryz.ntmps206;go_wp2_with fail;refine (clean_any s _ hs).mono ?_;rintro e w1 ⟨rfl,hbb⟩;rw [HX.out];go_wp2_with fail;go_ret2;exact ⟨by rw [HV.out];rfl,hbb⟩
 have t7:(X.toList == [105,115,111,45,56,56,53,57,45,49]) = false:=listF HXX.out h7
 by_cases h8:x = [105,115,111,56,56,53,57,45,49]
 ·have HV:Hid (knownV (kindOf x) = .tuple #[.string ⟨#[119,105,110,100,111,119,115,45,49,50,53,50]⟩,.bool true]):=hide (by rw [h8,show kindOf [105,115,111,56,56,53,57,45,49] = 2 from by decide +kernel];rfl);have t8:(X.toList == [105,115,111,56,56,53,57,45,49]) = true:=listT HXX.out h8;clear h0 h1 h2 h3 h4 h5 h6 h7 h8;go_enter Tryz.func206,Tryz.ntmps206;go_wp2_with fail;refine (clean_any s _ hs).mono ?_;rintro e w1 ⟨rfl,hbb⟩;rw [HX.out];go_wp2_with fail;go_ret2;exact ⟨by rw [HV.out];rfl,hbb⟩
 have t8:(X.toList == [105,115,111,56,56,53,57,45,49]) = false:=listF HXX.out h8
 by_cases h9:x = [108,97,116,105,110,49]
 ·have HV:Hid (knownV (kindOf x) = .tuple #[.string ⟨#[119,105,110,100,111,119,115,45,49,50,53,50]⟩,.bool true]):=hide (by rw [h9,show kindOf [108,97,116,105,110,49] = 2 from by decide +kernel];rfl);have t9:(X.toList == [108,97,116,105,110,49]) = true:=listT HXX.out h9;clear h0 h1 h2 h3 h4 h5 h6 h7 h8 h9;go_enter Tryz.func206,Tryz.ntmps206;go_wp2_with fail;refine (clean_any s _ hs).mono ?_;rintro e w1 ⟨rfl,hbb⟩;rw [HX.out];go_wp2_with fail;go_ret2;exact ⟨by rw [HV.out];rfl,hbb⟩
 have t9:(X.toList == [108,97,116,105,110,49]) = false:=listF HXX.out h9
 by_cases h10:x = [108,49]
 ·have HV:Hid (knownV (kindOf x) = .tuple #[.string ⟨#[119,105,110,100,111,119,115,45,49,50,53,50]⟩,.bool true]):=hide (by rw [h10,show kindOf [108,49] = 2 from by decide +kernel];rfl);have t10:(X.toList == [108,49]) = true:=listT HXX.out h10;clear h0 h1 h2 h3 h4 h5 h6 h7 h8 h9 h10;go_enter Tryz.func206,Tryz.ntmps206;go_wp2_with fail;refine (clean_any s _ hs).mono ?_;rintro e w1 ⟨rfl,hbb⟩;rw [HX.out];go_wp2_with fail;go_ret2;exact ⟨by rw [HV.out];rfl,hbb⟩
 have t10:(X.toList == [108,49]) = false:=listF HXX.out h10
 by_cases h11:x = [117,116,102,45,49,54,108,101]
 ·have HV:Hid (knownV (kindOf x) = .tuple #[.string ⟨#[117,116,102,45,49,54,108,101]⟩,.bool true]):=hide (by rw [h11,show kindOf [117,116,102,45,49,54,108,101] = 3 from by decide +kernel];rfl);have t11:(X.toList == [117,116,102,45,49,54,108,101]) = true:=listT HXX.out h11;clear h0 h1 h2 h3 h4 h5 h6 h7 h8 h9 h10 h11;go_enter Tryz.func206,Tryz.ntmps206;go_wp2_with fail;refine (clean_any s _ hs).mono ?_;rintro e w1 ⟨rfl,hbb⟩;rw [HX.out];go_wp2_with fail;go_ret2;exact ⟨by rw [HV.out];rfl,hbb⟩
 have t11:(X.toList == [117,116,102,45,49,54,108,101]) = false:=listF HXX.out h11
 by_cases h12:x = [117,116,102,45,49,54]
 ·have HV:Hid (knownV (kindOf x) = .tuple #[.string ⟨#[117,116,102,45,49,54,108,101]⟩,.bool true]):=hide (by rw [h12,show kindOf [117,116,102,45,49,54] = 3 from by decide +kernel];rfl);have t12:(X.toList == [117,116,102,45,49,54]) = true:=listT HXX.out h12;clear h0 h1 h2 h3 h4 h5 h6 h7 h8 h9 h10 h11 h12;go_enter Tryz.func206,Tryz.ntmps206;go_wp2_with fail;refine (clean_any s _ hs).mono ?_;rintro e w1 ⟨rfl,hbb⟩;rw [HX.out];go_wp2_with fail;go_ret2;exact ⟨by rw [HV.out];rfl,hbb⟩
 have t12:(X.toList == [117,116,102,45,49,54]) = false:=listF HXX.out h12
 by_cases h13:x = [117,110,105,99,111,100,101]
 ·have HV:Hid (knownV (kindOf x) = .tuple #[.string ⟨#[117,116,102,45,49,54,108,101]⟩,.bool true]):=hide (by rw [h13,show kindOf [117,110,105,99,111,100,101] = 3 from by decide +kernel];rfl);have t13:(X.toList == [117,110,105,99,111,100,101]) = true:=listT HXX.out h13;clear h0 h1 h2 h3 h4 h5 h6 h7 h8 h9 h10 h11 h12 h13;go_enter Tryz.func206,Tryz.ntmps206;go_wp2_with fail;refine (clean_any s _ hs).mono ?_;rintro e w1 ⟨rfl,hbb⟩;rw [HX.out];go_wp2_with fail;go_ret2;exact ⟨by rw [HV.out];rfl,hbb⟩
 have t13:(X.toList == [117,110,105,99,111,100,101]) = false:=listF HXX.out h13
 by_cases h14:x = [117,99,115,45,50]
 ·have HV:Hid (knownV (kindOf x) = .tuple #[.string ⟨#[117,116,102,45,49,54,108,101]⟩,.bool true]):=hide (by rw [h14,show kindOf [117,99,115,45,50] = 3 from by decide +kernel];rfl);have t14:(X.toList == [117,99,115,45,50]) = true:=listT HXX.out h14;clear h0 h1 h2 h3 h4 h5 h6 h7 h8 h9 h10 h11 h12 h13 h14;go_enter Tryz.func206,Tryz.ntmps206;go_wp2_with fail;refine (clean_any s _ hs).mono ?_;rintro e w1 ⟨rfl,hbb⟩;rw [HX.out];go_wp2_with fail;go_ret2;exact ⟨by rw [HV.out];rfl,hbb⟩
 have t14:(X.toList == [117,99,115,45,50]) = false:=listF HXX.out h14
 by_cases h15:x = [117,116,102,45,49,54,98,101]
 ·have HV:Hid (knownV (kindOf x) = .tuple #[.string ⟨#[117,116,102,45,49,54,98,101]⟩,.bool true]):=hide (by rw [h15,show kindOf [117,116,102,45,49,54,98,101] = 4 from by decide +kernel];rfl);have t15:(X.toList == [117,116,102,45,49,54,98,101]) = true:=listT HXX.out h15;clear h0 h1 h2 h3 h4 h5 h6 h7 h8 h9 h10 h11 h12 h13 h14 h15;go_enter Tryz.func206,Tryz.ntmps206;go_wp2_with fail;refine (clean_any s _ hs).mono ?_;rintro e w1 ⟨rfl,hbb⟩;rw [HX.out];go_wp2_with fail;go_ret2;exact ⟨by rw [HV.out];rfl,hbb⟩
 have t15:(X.toList == [117,116,102,45,49,54,98,101]) = false:=listF HXX.out h15
 by_cases h16:x = [117,110,105,99,111,100,101,102,102,102,101]
 ·have HV:Hid (knownV (kindOf x) = .tuple #[.string ⟨#[117,116,102,45,49,54,98,101]⟩,.bool true]):=hide (by rw [h16,show kindOf [117,110,105,99,111,100,101,102,102,102,101] = 4 from by decide +kernel];rfl);have t16:(X.toList == [117,110,105,99,111,100,101,102,102,102,101]) = true:=listT HXX.out h16;clear h0 h1 h2 h3 h4 h5 h6 h7 h8 h9 h10 h11 h12 h13 h14 h15 h16;go_enter Tryz.func206,Tryz.ntmps206;go_wp2_with fail;refine (clean_any s _ hs).mono ?_;rintro e w1 ⟨rfl,hbb⟩;rw [HX.out];go_wp2_with fail;go_ret2;exact ⟨by rw [HV.out];rfl,hbb⟩
 have t16:(X.toList == [117,110,105,99,111,100,101,102,102,102,101]) = false:=listF HXX.out h16
 have HV:Hid (knownV (kindOf x) = .tuple #[.string ⟨#[]⟩,.bool false]):=hide (by
  rw [kind_none (x:=x) (by
   intro y hy;simp only [labels,List.mem_cons,List.mem_nil_iff,or_false] at hy;rcases hy with rfl | rfl | rfl | rfl | rfl | rfl | rfl | rfl | rfl | rfl | rfl | rfl | rfl | rfl | rfl | rfl | rfl
   all_goals assumption)]
  rfl)
 clear h0 h1 h2 h3 h4 h5 h6 h7 h8 h9 h10 h11 h12 h13 h14 h15 h16;go_enter Tryz.func206,Tryz.ntmps206;go_wp2_with fail;refine (clean_any s _ hs).mono ?_;rintro e w1 ⟨rfl,hbb⟩;rw [HX.out];go_wp2_with fail;go_ret2;exact ⟨by rw [HV.out];rfl,hbb⟩
end Go.Proofs.YtiejmkjpgjbodaaGreatDoor
