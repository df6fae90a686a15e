import Derived.Test.YtiejmkjpgjbodaaGreatDoorBaseR
import Derived.Test.YtiejmkjpgjbodaaGreatDoorRefSign
namespace Go.Proofs.YtiejmkjpgjbodaaGreatDoor
open Go.RowKit
set_option linter.unusedVariables false
set_option linter.unusedSimpArgs false
set_option maxRecDepth 100000
def namedB (l:List UInt8):ByteArray:=match nameN l with | some x=>str (runeL x) | none=>⟨#[]⟩
theorem sign_lit (n:Nat) (z:Int) (hz:z = n) (w:World) (hn:n <= 1114111) :
  Calls Tryz.prog 181 #[.int .i64 z] w fun e w'=>e = .returned (.string (str (runeL n))) /\ Below w.heap.size w w':=by
 subst hz;exact sign_any n w hn
set_option maxHeartbeats 4000000 in
theorem refNamed_any (s:ByteArray) (w:World) :
  Calls Tryz.prog 160 #[.string s] w fun e w'=>e = .returned (.string (namedB s.data.toList)) /\ Below w.heap.size w w':=by
 by_cases h0:s.data.toList = [97,109,112]
 ·have HV:Hid (namedB s.data.toList = ⟨#[38]⟩):=hide (by rw [h0];decide);have t0:(s.toList == [97,109,112]) = true:=by rw [bytes_list,h0];rfl
  clear h0;go_enter Tryz.func160,Tryz.ntmps160;go_wp2_with fail;go_ret;exact ⟨by rw [HV.out] <;> rfl,Below.refl _ _⟩
 have t0:(s.toList == [97,109,112]) = false:=by rw [bytes_list];simp only [beq_eq_false_iff_ne,ne_eq];exact h0
 by_cases h1:s.data.toList = [108,116]
 ·have HV:Hid (namedB s.data.toList = ⟨#[60]⟩):=hide (by rw [h1];decide);have t1:(s.toList == [108,116]) = true:=by rw [bytes_list,h1];rfl
  clear h0 h1;go_enter Tryz.func160,Tryz.ntmps160;go_wp2_with fail;go_ret;exact ⟨by rw [HV.out] <;> rfl,Below.refl _ _⟩
 have t1:(s.toList == [108,116]) = false:=by rw [bytes_list];simp only [beq_eq_false_iff_ne,ne_eq];exact h1
 by_cases h2:s.data.toList = [103,116]
 ·have HV:Hid (namedB s.data.toList = ⟨#[62]⟩):=hide (by rw [h2];decide);have t2:(s.toList == [103,116]) = true:=by rw [bytes_list,h2];rfl
  clear h0 h1 h2;go_enter Tryz.func160,Tryz.ntmps160;go_wp2_with fail;go_ret;exact ⟨by rw [HV.out] <;> rfl,Below.refl _ _⟩
 have t2:(s.toList == [103,116]) = false:=by rw [bytes_list];simp only [beq_eq_false_iff_ne,ne_eq];exact h2
 by_cases h3:s.data.toList = [113,117,111,116]
 ·have HV:Hid (namedB s.data.toList = ⟨#[34]⟩):=hide (by rw [h3];decide);have t3:(s.toList == [113,117,111,116]) = true:=by rw [bytes_list,h3];rfl
  clear h0 h1 h2 h3;go_enter Tryz.func160,Tryz.ntmps160;go_wp2_with fail;go_ret;exact ⟨by rw [HV.out] <;> rfl,Below.refl _ _⟩
 have t3:(s.toList == [113,117,111,116]) = false:=by rw [bytes_list];simp only [beq_eq_false_iff_ne,ne_eq];exact h3
 by_cases h4:s.data.toList = [97,112,111,115]
 ·have HV:Hid (namedB s.data.toList = ⟨#[39]⟩):=hide (by rw [h4];decide);have t4:(s.toList == [97,112,111,115]) = true:=by rw [bytes_list,h4];rfl
  clear h0 h1 h2 h3 h4;go_enter Tryz.func160,Tryz.ntmps160;go_wp2_with fail;go_ret;exact ⟨by rw [HV.out] <;> rfl,Below.refl _ _⟩
 have t4:(s.toList == [97,112,111,115]) = false:=by rw [bytes_list];simp only [beq_eq_false_iff_ne,ne_eq];exact h4
 by_cases h5:s.data.toList = [110,98,115,112]
 ·have HV:Hid (namedB s.data.toList = str (runeL (160:Nat))):=hide (by rw [h5];rfl);have t5:(s.toList == [110,98,115,112]) = true:=by rw [bytes_list,h5];rfl
  clear h0 h1 h2 h3 h4 h5;go_enter Tryz.func160,Tryz.ntmps160;go_wp2_with (go_at_call 181;refine (sign_lit 160 _ rfl _ (by decide)).mono ?_;rintro e w1 ⟨rfl,hb1⟩);go_ret;exact ⟨by rw [HV.out] <;> rfl,hb1⟩
 have t5:(s.toList == [110,98,115,112]) = false:=by rw [bytes_list];simp only [beq_eq_false_iff_ne,ne_eq];exact h5
 by_cases h6:s.data.toList = [99,111,112,121]
 ·have HV:Hid (namedB s.data.toList = str (runeL (169:Nat))):=hide (by rw [h6];rfl);have t6:(s.toList == [99,111,112,121]) = true:=by rw [bytes_list,h6];rfl
  clear h0 h1 h2 h3 h4 h5 h6;go_enter Tryz.func160,Tryz.ntmps160;go_wp2_with (go_at_call 181;refine (sign_lit 169 _ rfl _ (by decide)).mono ?_;rintro e w1 ⟨rfl,hb1⟩);go_ret;exact ⟨by rw [HV.out] <;> rfl,hb1⟩
 have t6:(s.toList == [99,111,112,121]) = false:=by rw [bytes_list];simp only [beq_eq_false_iff_ne,ne_eq];exact h6
 by_cases h7:s.data.toList = [114,101,103]
 ·have HV:Hid (namedB s.data.toList = str (runeL (174:Nat))):=hide (by rw [h7];rfl);have t7:(s.toList == [114,101,103]) = true:=by rw [bytes_list,h7];rfl
  clear h0 h1 h2 h3 h4 h5 h6 h7;go_enter Tryz.func160,Tryz.ntmps160;go_wp2_with (go_at_call 181;refine (sign_lit 174 _ rfl _ (by decide)).mono ?_;rintro e w1 ⟨rfl,hb1⟩);go_ret;exact ⟨by rw [HV.out] <;> rfl,hb1⟩
 have t7:(s.toList == [114,101,103]) = false:=by rw [bytes_list];simp only [beq_eq_false_iff_ne,ne_eq];exact h7
 by_cases h8:s.data.toList = [104,101,108,108,105,112]
 ·have HV:Hid (namedB s.data.toList = str (runeL (8230:Nat))):=hide (by rw [h8];rfl);have t8:(s.toList == [104,101,108,108,105,112]) = true:=by rw [bytes_list,h8];rfl
  clear h0 h1 h2 h3 h4 h5 h6 h7 h8;go_enter Tryz.func160,Tryz.ntmps160;go_wp2_with (go_at_call 181;refine (sign_lit 8230 _ rfl _ (by decide)).mono ?_;rintro e w1 ⟨rfl,hb1⟩);go_ret;exact ⟨by rw [HV.out] <;> rfl,hb1⟩
 have t8:(s.toList == [104,101,108,108,105,112]) = false:=by rw [bytes_list];simp only [beq_eq_false_iff_ne,ne_eq];exact h8
 by_cases h9:s.data.toList = [110,100,97,115,104]
 ·have HV:Hid (namedB s.data.toList = str (runeL (8211:Nat))):=hide (by rw [h9];rfl);have t9:(s.toList == [110,100,97,115,104]) = true:=by rw [bytes_list,h9];rfl
  clear h0 h1 h2 h3 h4 h5 h6 h7 h8 h9;go_enter Tryz.func160,Tryz.ntmps160;go_wp2_with (go_at_call 181;refine (sign_lit 8211 _ rfl _ (by decide)).mono ?_;rintro e w1 ⟨rfl,hb1⟩);go_ret;exact ⟨by rw [HV.out] <;> rfl,hb1⟩
 have t9:(s.toList == [110,100,97,115,104]) = false:=by rw [bytes_list];simp only [beq_eq_false_iff_ne,ne_eq];exact h9
 by_cases h10:s.data.toList = [109,100,97,115,104]
 ·have HV:Hid (namedB s.data.toList = str (runeL (8212:Nat))):=hide (by rw [h10];rfl);have t10:(s.toList == [109,100,97,115,104]) = true:=by rw [bytes_list,h10];rfl
  clear h0 h1 h2 h3 h4 h5 h6 h7 h8 h9 h10;go_enter Tryz.func160,Tryz.ntmps160;go_wp2_with (go_at_call 181;refine (sign_lit 8212 _ rfl _ (by decide)).mono ?_;rintro e w1 ⟨rfl,hb1⟩);go_ret;exact ⟨by rw [HV.out] <;> rfl,hb1⟩
 have t10:(s.toList == [109,100,97,115,104]) = false:=by rw [bytes_list];simp only [beq_eq_false_iff_ne,ne_eq];exact h10
 by_cases h11:s.data.toList = [101,117,114,111]
 ·have HV:Hid (namedB s.data.toList = str (runeL (8364:Nat))):=hide (by rw [h11];rfl);have t11:(s.toList == [101,117,114,111]) = true:=by rw [bytes_list,h11];rfl
  clear h0 h1 h2 h3 h4 h5 h6 h7 h8 h9 h10 h11;go_enter Tryz.func160,Tryz.ntmps160;go_wp2_with (go_at_call 181;refine (sign_lit 8364 _ rfl _ (by decide)).mono ?_;rintro e w1 ⟨rfl,hb1⟩);go_ret;exact ⟨by rw [HV.out] <;> rfl,hb1⟩
 have t11:(s.toList == [101,117,114,111]) = false:=by rw [bytes_list];simp only [beq_eq_false_iff_ne,ne_eq];exact h11
 by_cases h12:s.data.toList = [108,115,113,117,111]
 ·have HV:Hid (namedB s.data.toList = str (runeL (8216:Nat))):=hide (by rw [h12];rfl);have t12:(s.toList == [108,115,113,117,111]) = true:=by rw [bytes_list,h12];rfl
  clear h0 h1 h2 h3 h4 h5 h6 h7 h8 h9 h10 h11 h12;go_enter Tryz.func160,Tryz.ntmps160;go_wp2_with (go_at_call 181;refine (sign_lit 8216 _ rfl _ (by decide)).mono ?_;rintro e w1 ⟨rfl,hb1⟩);go_ret;exact ⟨by rw [HV.out] <;> rfl,hb1⟩
 have t12:(s.toList == [108,115,113,117,111]) = false:=by rw [bytes_list];simp only [beq_eq_false_iff_ne,ne_eq];exact h12
 by_cases h13:s.data.toList = [114,115,113,117,111]
 ·have HV:Hid (namedB s.data.toList = str (runeL (8217:Nat))):=hide (by rw [h13];rfl);have t13:(s.toList == [114,115,113,117,111]) = true:=by rw [bytes_list,h13];rfl
  clear h0 h1 h2 h3 h4 h5 h6 h7 h8 h9 h10 h11 h12 h13;go_enter Tryz.func160,Tryz.ntmps160;go_wp2_with (go_at_call 181;refine (sign_lit 8217 _ rfl _ (by decide)).mono ?_;rintro e w1 ⟨rfl,hb1⟩);go_ret;exact ⟨by rw [HV.out] <;> rfl,hb1⟩
 have t13:(s.toList == [114,115,113,117,111]) = false:=by rw [bytes_list];simp only [beq_eq_false_iff_ne,ne_eq];exact h13
 by_cases h14:s.data.toList = [108,100,113,117,111]
 ·have HV:Hid (namedB s.data.toList = str (runeL (8220:Nat))):=hide (by rw [h14];rfl);have t14:(s.toList == [108,100,113,117,111]) = true:=by rw [bytes_list,h14];rfl
  clear h0 h1 h2 h3 h4 h5 h6 h7 h8 h9 h10 h11 h12 h13 h14;go_enter Tryz.func160,Tryz.ntmps160;go_wp2_with (go_at_call 181;refine (sign_lit 8220 _ rfl _ (by decide)).mono ?_;rintro e w1 ⟨rfl,hb1⟩);go_ret;exact ⟨by rw [HV.out] <;> rfl,hb1⟩
 have t14:(s.toList == [108,100,113,117,111]) = false:=by rw [bytes_list];simp only [beq_eq_false_iff_ne,ne_eq];exact h14
 by_cases h15:s.data.toList = [114,100,113,117,111]
 ·have HV:Hid (namedB s.data.toList = str (runeL (8221:Nat))):=hide (by rw [h15];rfl);have t15:(s.toList == [114,100,113,117,111]) = true:=by rw [bytes_list,h15];rfl
  clear h0 h1 h2 h3 h4 h5 h6 h7 h8 h9 h10 h11 h12 h13 h14 h15;go_enter Tryz.func160,Tryz.ntmps160;go_wp2_with (go_at_call 181;refine (sign_lit 8221 _ rfl _ (by decide)).mono ?_;rintro e w1 ⟨rfl,hb1⟩);go_ret;exact ⟨by rw [HV.out] <;> rfl,hb1⟩
 have t15:(s.toList == [114,100,113,117,111]) = false:=by rw [bytes_list];simp only [beq_eq_false_iff_ne,ne_eq];exact h15
 have HV:Hid (namedB s.data.toList = ⟨#[]⟩):=hide (by
  have:nameN s.data.toList = none:=by
   cases e:nameN s.data.toList with
   | none=>rfl
   | some x =>
    have:=name_mem _ x e;simp only [namesL,List.mem_cons,List.not_mem_nil,or_false] at this;rcases this with h | h | h | h | h | h | h | h | h | h | h | h | h | h | h | h
    all_goals (first | exact absurd h h0 | exact absurd h h1 | exact absurd h h2 | exact absurd h h3 | exact absurd h h4 | exact absurd h h5 | exact absurd h h6 | exact absurd h h7 | exact absurd h h8 | exact absurd h h9 | exact absurd h h10 | exact absurd h h11 | exact absurd h h12 | exact absurd h h13 | exact absurd h h14 | exact absurd h h15)
  unfold namedB;rw [this])
 clear h0 h1 h2 h3 h4 h5 h6 h7 h8 h9 h10 h11 h12 h13 h14 h15;go_enter Tryz.func160,Tryz.ntmps160;go_wp2_with fail;go_ret;exact ⟨by rw [HV.out] <;> rfl,Below.refl _ _⟩
end Go.Proofs.YtiejmkjpgjbodaaGreatDoor
