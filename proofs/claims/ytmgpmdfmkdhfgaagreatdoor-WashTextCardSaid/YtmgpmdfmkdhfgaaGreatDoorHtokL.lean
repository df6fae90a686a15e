import Derived.Test.YtmgpmdfmkdhfgaaGreatDoorHtokE
namespace Go.Proofs.YtmgpmdfmkdhfgaaGreatDoor
open Go.RowKit
set_option linter.unusedVariables false
set_option linter.unusedSimpArgs false
set_option maxRecDepth 100000
theorem index_cutAt (t:List UInt8) (ht:t ≠ []):∀ l:List UInt8,(Lib.index l t = -1 /\ cutAt t l = (l,[])) \/ ∃ o:Nat,Lib.index l t = o /\ o + t.length <= l.length /\ cutAt t l = (l.take o,l.drop (o + t.length))
 | []=>.inl ⟨by
   unfold Lib.index;rw [if_neg (by simpa using ht)],rfl⟩
 | c :: r=>by
  by_cases hp:t.isPrefixOf (c :: r) = true
  ·refine .inr ⟨0,by unfold Lib.index;rw [if_pos hp];rfl,?_,by unfold cutAt;rw [if_pos hp,Nat.zero_add];rfl⟩;obtain ⟨q,hq⟩:=List.isPrefixOf_iff_prefix.1 hp;rw [<- hq,List.length_append];omega
  ·rcases index_cutAt t ht r with ⟨h1,h2⟩ | ⟨o,h1,h2,h3⟩
   ·refine .inl ⟨?_,by unfold cutAt;rw [if_neg hp,h2]⟩;unfold Lib.index;rw [if_neg hp,h1];rfl
   ·refine .inr ⟨o + 1,?_,by rw [List.length_cons];omega,?_⟩
    ·unfold Lib.index;have hne:((o:Int) == -1) = false:=by rw [beq_eq_false_iff_ne];omega
     rw [if_neg hp,h1,hne];rfl
    ·unfold cutAt;rw [if_neg hp,h3,show o + 1 + t.length = (o + t.length) + 1 by omega];rfl
def cutLV (l:List UInt8) (f:Bool):Value:=.tuple #[.string (str (cutAt remEnd l).1),.string (str (cutAt remEnd l).2),.bool f]
set_option maxHeartbeats 1000000 in
theorem cutL_any (s:ByteArray) (m:Int) (w:World) (hs:s.size <= 16777216) (hm:w.cell? ⟨0,0,none⟩ = some (.int .i64 m)) :
  Calls Tryz.prog 98 #[.string s,.string ⟨#[45,45,62]⟩] w fun e w'=>∃ f,e = .returned (cutLV s.data.toList f) /\ Below w.heap.size w w':=by
 have hz:(⟨#[45,45,62]⟩:ByteArray).size = 3:=rfl;have HI:=hide (Tryz.stringslite_Index s ⟨#[45,45,62]⟩ m w (by omega) hm);clear hm;rcases index_cutAt remEnd (by decide) s.data.toList with ⟨i1,i2⟩ | ⟨o,i1,i2,i3⟩
 ·rw [show (⟨#[45,45,62]⟩:ByteArray).data.toList = remEnd from rfl,i1] at HI;have I2:=hide i2;clear i1 i2;go_enter Tryz.func98,Tryz.ntmps98;go_wp2_with fail;refine HI.out.mono ?_;rintro e w1 ⟨rfl,hw⟩;subst hw;go_wp2_with fail;go_ret3;exact ⟨false,ret_cut (by rw [I2.out];exact (str_of s).symm) (by rw [I2.out];rfl) rfl,Below.refl _ _⟩
 ·rw [show (⟨#[45,45,62]⟩:ByteArray).data.toList = remEnd from rfl,i1] at HI;have I3:=hide i3;rw [toList_length,show remEnd.length = 3 from rfl] at i2;have o1:(o:Int) + 3 <= s.size:=by omega
  have o0:(0:Int) <= o:=by omega
  have o2:(o:Int) <= s.size:=by omega
  have o3:(0:Int) <= (o:Int) + 3:=by omega
  have o4:((o:Int) + 3).toNat = o + 3:=by omega
  clear i1 i3;go_enter Tryz.func98,Tryz.ntmps98;go_wp2_with fail;refine HI.out.mono ?_;rintro e w1 ⟨rfl,hw⟩;subst hw;go_wp2_with fail;go_region
  all_goals (try go_wp2)
  all_goals
   go_ret3;exact ⟨true,ret_cut (ext_list (by rw [extract_list,List.drop_zero,str_toList,I3.out])) (ext_list (by rw [extract_end,str_toList,I3.out];rfl)) rfl,(Below.refl _ _).drew⟩
set_option maxHeartbeats 1000000 in
theorem strCutL_any (s:ByteArray) (m:Int) (w:World) (hs:s.size <= 16777216) (hm:w.cell? ⟨0,0,none⟩ = some (.int .i64 m)) :
  Calls Tryz.prog 70 #[.string s,.string ⟨#[45,45,62]⟩] w fun e w'=>∃ f,e = .returned (cutLV s.data.toList f) /\ Below w.heap.size w w':=by
 have HC:=hide (cutL_any s m w hs hm);clear hm;go_enter Tryz.func70,Tryz.ntmps70;go_wp2_with fail;refine HC.out.mono ?_;rintro e w1 ⟨f,rfl,hb⟩;unfold cutLV;go_wp2_with fail;go_ret3;exact ⟨f,rfl,hb⟩
def remLL (l:List UInt8):MarkR:=(some (remT (cutAt remEnd l).1),[],(cutAt remEnd l).2)
set_option maxHeartbeats 4000000 in
theorem commentL_any (B b:Nat) (o:Value) (vs:List TokV) (x:List UInt8) (W0 w:World) (s:ByteArray) (m:Int) (h:Rdr B b o vs x W0 w) (hn:vs.length <= 1099511627776) (hs:s.size <= 16777216) (hm:w.cell? ⟨0,0,none⟩ = some (.int .i64 m)) :
  Calls Tryz.prog 78 #[.pointer (some ⟨b,0,none⟩),.string s,.string ⟨#[45,45,62]⟩] w fun e w'=>e = .returned (.string (str (remLL s.data.toList).2.2)) /\ MarkP B b vs x W0 (remLL s.data.toList) w':=by
 have HC:=hide (strCutL_any s m w hs hm);have HH:=hide h;have HADD:=hide (fun w2 (h2:Rdr B b o vs x W0 w2)=>add_any B b o vs x W0 w2 h2 hn (remT (cutAt remEnd s.data.toList).1) (.slice none 0 0) (World.ownsRow_nil w2 B _ 2));clear h hm;unfold cutLV at HC;go_enter Tryz.func78,Tryz.ntmps78;go_wp2_with fail;refine HC.out.mono ?_;rintro e w1 ⟨f,rfl,hb⟩;have HR:=hide (HH.out.kept hb);clear hb;go_wp2_with fail;refine (HADD.out _ HR.out).mono ?_;rintro e w2 ⟨rfl,o2,vs2,r2,m2,l2⟩;have HR2:=hide r2;have HM2:=hide m2;have HL2:=hide l2;clear r2 m2 l2;go_wp2_with fail;go_ret;exact ⟨rfl,o2,vs2,HR2.out,HM2.out,HL2.out⟩
end Go.Proofs.YtmgpmdfmkdhfgaaGreatDoor
