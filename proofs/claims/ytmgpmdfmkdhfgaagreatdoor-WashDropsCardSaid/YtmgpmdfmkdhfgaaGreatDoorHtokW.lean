import Derived.Test.YtmgpmdfmkdhfgaaGreatDoorBaseN
import Derived.Test.YtmgpmdfmkdhfgaaGreatDoorBaseS
import Derived.Test.YtmgpmdfmkdhfgaaGreatDoorBaseO
import Derived.BigQuiet
import Derived.Deep.QuietTactic
namespace Go.Proofs.YtmgpmdfmkdhfgaaGreatDoor
open Go.RowKit
set_option linter.unusedVariables false
set_option linter.unusedSimpArgs false
set_option maxRecDepth 100000
theorem indexAny_up (cs:List UInt8):∀ l:List UInt8,(Lib.indexAny l cs = -1 /\ l.takeWhile (fun c=>!cs.contains c) = l /\ l.dropWhile (fun c=>!cs.contains c) = []) \/
  ∃ o:Nat,Lib.indexAny l cs = o /\ o < l.length /\ l.takeWhile (fun c=>!cs.contains c) = l.take o /\ l.dropWhile (fun c=>!cs.contains c) = l.drop o
 | []=>.inl ⟨rfl,rfl,rfl⟩
 | c :: r=>by
  cases hc:cs.contains c with
  | true=>exact .inr ⟨0,by simp only [Lib.indexAny,hc,if_true];rfl,Nat.succ_pos _,by simp only [List.takeWhile_cons,hc,Bool.not_true];rfl,by simp only [List.dropWhile_cons,hc,Bool.not_true];rfl⟩
  | false =>
   rcases indexAny_up cs r with ⟨h1,h2,h3⟩ | ⟨o,h1,h2,h3,h4⟩
   ·exact .inl ⟨by simp only [Lib.indexAny,hc,h1];rfl,by simp only [List.takeWhile_cons,hc,Bool.not_false,if_true,h2],by simp only [List.dropWhile_cons,hc,Bool.not_false,if_true,h3]⟩
   ·have hne:((o:Int) == -1) = false:=by rw [beq_eq_false_iff_ne];omega
    exact .inr ⟨o + 1,by simp only [Lib.indexAny,hc,h1];rw [if_neg Bool.false_ne_true,if_neg (by rw [hne];exact Bool.false_ne_true)];rfl,Nat.succ_lt_succ h2,by simp only [List.takeWhile_cons,hc,Bool.not_false,if_true,h3,List.take_succ_cons],by simp only [List.dropWhile_cons,hc,Bool.not_false,if_true,h4,List.drop_succ_cons]⟩
def upV (x:List UInt8 × List UInt8):Value:=.tuple #[.string (str x.1),.string (str x.2)]
set_option maxHeartbeats 2000000 in
theorem upTo0_any (s cs:ByteArray) (p:UInt8 -> Bool) (w:World) (hp:∀ c,cs.data.toList.contains c = p c) (hs:s.size <= 16777216) (h2:2 <= cs.size) (hcs:cs.size <= 100) (ha:cs.data.toList.all (fun c=>decide (c.toNat < 128)) = true) :
  Calls Tryz.prog 117 #[.string s,.int .i64 0,.string cs] w fun e w'=>e = .returned (upV (upL p s.data.toList)) /\ Below w.heap.size w w':=by
 have HI:=hide (fun w2=>indexAny_any s cs w2 h2 hcs hs ha)
 have hup:upL p s.data.toList = (s.data.toList.takeWhile (fun c=>!cs.data.toList.contains c),s.data.toList.dropWhile (fun c=>!cs.data.toList.contains c)):=by
  unfold upL;rw [show (fun c=>!p c) = (fun c=>!cs.data.toList.contains c) from funext fun c=>by rw [hp]]
 rcases indexAny_up cs.data.toList s.data.toList with ⟨i1,i2,i3⟩ | ⟨o,i1,i2,i3,i4⟩
 ·rw [i1] at HI;have HR:Hid (upV (upL p s.data.toList) = .tuple #[.string s,.string ⟨#[]⟩]):=hide (by rw [hup,i2,i3];unfold upV;rw [str_of];rfl);clear hup i1 i2 i3 ha hp;go_enter Tryz.func117,Tryz.ntmps117;go_wp2_with fail;refine (HI.out _).mono ?_;rintro e w1 ⟨rfl,hb1⟩;have HB:=hide hb1;clear hb1;go_wp2_with fail;go_ret2;exact ⟨by rw [HR.out];rfl,HB.out⟩
 ·rw [i1] at HI;rw [toList_length] at i2
  have HR:Hid (upV (upL p s.data.toList) = .tuple #[.string (s.extract 0 o),.string (s.extract o s.size)]):=hide (by
   rw [hup,i3,i4];unfold upV;rw [show str (s.data.toList.take o) = s.extract 0 o from ext_list (by rw [str_toList,extract_list,List.drop_zero]),show str (s.data.toList.drop o) = s.extract o s.size from ext_list (by rw [str_toList,extract_end])])
  have q0:(0:Int) <= o:=by omega
  have q1:(o:Int) <= s.size:=by omega
  have q2:IntKind.i64.wrap (o:Int) = (o:Int):=IntWalk.i64_in _ (by omega);have q3:IntKind.i64.wrap (0 + (o:Int)) = (o:Int):=by rw [Int.zero_add];exact q2
  clear hup i1 i2 i3 i4 ha hp;go_enter Tryz.func117,Tryz.ntmps117;go_wp2_with fail;refine (HI.out _).mono ?_;rintro e w1 ⟨rfl,hb1⟩;have HB:=hide hb1;clear hb1;go_wp2_with fail;go_quiet (fail)
  try go_wp2_with fail
  go_ret2;exact ⟨by rw [HR.out];rfl,HB.out.trans ⟨rfl,rfl,rfl,Nat.le_refl _,fun _ _=>rfl⟩⟩
def up1L (p:UInt8 -> Bool) (l:List UInt8):List UInt8 × List UInt8:=(l.take 1 ++ (upL p (l.drop 1)).1,(upL p (l.drop 1)).2)
set_option maxHeartbeats 2000000 in
theorem upTo1_any (s cs:ByteArray) (p:UInt8 -> Bool) (w:World) (hp:∀ c,cs.data.toList.contains c = p c) (hs:s.size <= 16777216) (h1:1 <= s.size) (h2:2 <= cs.size) (hcs:cs.size <= 100) (ha:cs.data.toList.all (fun c=>decide (c.toNat < 128)) = true) :
  Calls Tryz.prog 117 #[.string s,.int .i64 1,.string cs] w fun e w'=>e = .returned (upV (up1L p s.data.toList)) /\ Below w.heap.size w w':=by
 have hez:(s.extract 1 s.size).size <= 16777216:=by rw [ByteArray.size_extract];omega
 have hel:(s.extract 1 s.size).data.toList = s.data.toList.drop 1:=extract_end s 1;have HI:=hide (fun w2=>indexAny_any (s.extract 1 s.size) cs w2 h2 hcs hez ha);rw [hel] at HI
 have hup:upL p (s.data.toList.drop 1) = ((s.data.toList.drop 1).takeWhile (fun c=>!cs.data.toList.contains c),(s.data.toList.drop 1).dropWhile (fun c=>!cs.data.toList.contains c)):=by
  unfold upL;rw [show (fun c=>!p c) = (fun c=>!cs.data.toList.contains c) from funext fun c=>by rw [hp]]
 have r0:(1:Int) <= s.size:=by omega
 rcases indexAny_up cs.data.toList (s.data.toList.drop 1) with ⟨i1,i2,i3⟩ | ⟨o,i1,i2,i3,i4⟩
 ·rw [i1] at HI
  have HR:Hid (upV (up1L p s.data.toList) = .tuple #[.string s,.string ⟨#[]⟩]):=hide (by
   unfold up1L;rw [hup,i2,i3];unfold upV;rw [List.take_append_drop,str_of];rfl)
  clear hup i1 i2 i3 ha hp hel hez;go_enter Tryz.func117,Tryz.ntmps117;go_wp2_with fail;refine (HI.out _).mono ?_;rintro e w1 ⟨rfl,hb1⟩;have HB:=hide hb1;clear hb1;go_wp2_with fail;go_ret2;exact ⟨by rw [HR.out];rfl,HB.out⟩
 ·rw [i1] at HI;rw [List.length_drop,toList_length] at i2
  have HR:Hid (upV (up1L p s.data.toList) = .tuple #[.string (s.extract 0 (1 + o)),.string (s.extract (1 + o) s.size)]):=hide (by
   unfold up1L;rw [hup,i3,i4];unfold upV;rw [show str (s.data.toList.take 1 ++ (s.data.toList.drop 1).take o) = s.extract 0 (1 + o) from ext_list (by rw [str_toList,extract_list,List.drop_zero,List.take_add]),show str ((s.data.toList.drop 1).drop o) = s.extract (1 + o) s.size from ext_list (by rw [str_toList,extract_end,List.drop_drop])])
  have q0:(0:Int) <= 1 + (o:Int):=by omega
  have q1:1 + (o:Int) <= s.size:=by omega
  have q2:IntKind.i64.wrap (1 + (o:Int)) = 1 + (o:Int):=IntWalk.i64_in _ (by omega);have q3:(1 + (o:Int)).toNat = 1 + o:=by omega
  have q4:(0:Int) <= o:=by omega
  clear hup i1 i2 i3 i4 ha hp hel hez;go_enter Tryz.func117,Tryz.ntmps117;go_wp2_with fail;refine (HI.out _).mono ?_;rintro e w1 ⟨rfl,hb1⟩;have HB:=hide hb1;clear hb1;go_wp2_with fail;go_quiet (fail)
  try go_wp2_with fail
  go_ret2;exact ⟨by rw [HR.out];rfl,HB.out.trans ⟨rfl,rfl,rfl,Nat.le_refl _,fun _ _=>rfl⟩⟩
end Go.Proofs.YtmgpmdfmkdhfgaaGreatDoor
