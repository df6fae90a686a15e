import Derived.Test.YtmgpmdfmkdhfgaaGreatDoorBaseT
import Derived.Test.YtmgpmdfmkdhfgaaGreatDoorBaseO
namespace Go.Proofs.YtmgpmdfmkdhfgaaGreatDoor
open Go.RowKit
set_option linter.unusedVariables false
set_option linter.unusedSimpArgs false
set_option maxRecDepth 100000
def MarkP (B b:Nat) (vs:List TokV) (x:List UInt8) (W0:World) (m:MarkR) (w':World):Prop :=
  ∃ o' vs',Rdr B b o' vs' (addT (vs.map Prod.fst) x m).2 W0 w' /\ vs'.map Prod.fst = (addT (vs.map Prod.fst) x m).1 /\ vs'.length <= vs.length + 2
theorem MarkP.none {B b:Nat} {o:Value} {vs:List TokV} {x l:List UInt8} {W0 w:World} (h:Rdr B b o vs x W0 w):MarkP B b vs x W0 (none,[],l) w:=by
 refine ⟨o,vs,?_,rfl,Nat.le_add_right _ _⟩;show Rdr B b o vs (x ++ []) W0 w
 rw [List.append_nil];exact h
theorem endL_none {dec:List UInt8 -> List UInt8} {l:List UInt8} (h:tagL dec l = none):endL dec l = (none,[],[]):=by unfold endL;rw [h]
theorem endL_some {dec:List UInt8 -> List UInt8} {l n b:List UInt8} {A:List AtL} (h:tagL dec l = some (n,A,b)):endL dec l = (some (endT n),[],b):=by unfold endL;rw [h]
set_option maxHeartbeats 4000000 in
theorem end_any (B b:Nat) (o:Value) (vs:List TokV) (x:List UInt8) (W0 w:World) (s:ByteArray) (h:Rdr B b o vs x W0 w) (hn:vs.length <= 1099511627776) (hs:s.size <= 16777216) (hE:EnvE w) :
  Calls Tryz.prog 75 #[.pointer (some ⟨b,0,none⟩),.string s] w fun e w'=>e = .returned (.string (str (endL decE s.data.toList).2.2)) /\ MarkP B b vs x W0 (endL decE s.data.toList) w':=by
 have HT:=hide (readTag_any s w hs hE);have HH:=hide h;cases ht:tagL decE s.data.toList with
 | none =>
  rw [ht] at HT;have HV:=hide (endL_none ht);clear ht h hE;unfold tagV at HT;go_enter Tryz.func75,Tryz.ntmps75;go_wp2_with fail;refine HT.out.mono ?_;rintro e w1 ⟨v,rfl,hr,hb⟩;have HR:=hide (HH.out.kept hb);clear hr hb;go_wp2_with fail;go_ret;exact ⟨by rw [HV.out];rfl,by rw [HV.out];exact MarkP.none HR.out⟩
 | some p =>
  obtain ⟨n,A,q⟩:=p;rw [ht] at HT;have HV:=hide (endL_some ht);have HADD:=hide (fun w2 (h2:Rdr B b o vs x W0 w2)=>add_any B b o vs x W0 w2 h2 hn (endT n) (.slice none 0 0) (World.ownsRow_nil w2 B _ 2));clear ht h hE;unfold tagV at HT;go_enter Tryz.func75,Tryz.ntmps75;go_wp2_with fail;refine HT.out.mono ?_;rintro e w1 ⟨v,rfl,hr,hb⟩;have HR:=hide (HH.out.kept hb);clear hr hb;go_wp2_with fail;refine (HADD.out _ HR.out).mono ?_;rintro e w2 ⟨rfl,o2,vs2,r2,m2,l2⟩;have HR2:=hide r2;have HM2:=hide m2;have HL2:=hide l2;clear r2 m2 l2;go_wp2_with fail;go_ret;exact ⟨by rw [HV.out];rfl,by rw [HV.out];exact ⟨o2,vs2,HR2.out,HM2.out,HL2.out⟩⟩
set_option maxHeartbeats 4000000 in
theorem comment_any (B b:Nat) (o:Value) (vs:List TokV) (x:List UInt8) (W0 w:World) (s:ByteArray) (h:Rdr B b o vs x W0 w) (hn:vs.length <= 1099511627776) (hs:s.size <= 16777216) :
  Calls Tryz.prog 78 #[.pointer (some ⟨b,0,none⟩),.string s,.string ⟨#[62]⟩] w fun e w'=>e = .returned (.string (str (remL s.data.toList).2.2)) /\ MarkP B b vs x W0 (remL s.data.toList) w':=by
 have HC:=hide (strCut_any s 62 w (Nat.le_trans hs (by decide)));have HH:=hide h;have HADD:=hide (fun w2 (h2:Rdr B b o vs x W0 w2)=>add_any B b o vs x W0 w2 h2 hn (remT (beforeC 62 s.data.toList)) (.slice none 0 0) (World.ownsRow_nil w2 B _ 2));clear h;unfold cutV at HC;go_enter Tryz.func78,Tryz.ntmps78;go_wp2_with fail;refine HC.out.mono ?_;rintro e w1 ⟨rfl,hb⟩;have HR:=hide (HH.out.kept hb);clear hb;go_wp2_with fail;refine (HADD.out _ HR.out).mono ?_;rintro e w2 ⟨rfl,o2,vs2,r2,m2,l2⟩;have HR2:=hide r2;have HM2:=hide m2;have HL2:=hide l2;clear r2 m2 l2;go_wp2_with fail;go_ret;exact ⟨rfl,o2,vs2,HR2.out,HM2.out,HL2.out⟩
end Go.Proofs.YtmgpmdfmkdhfgaaGreatDoor
