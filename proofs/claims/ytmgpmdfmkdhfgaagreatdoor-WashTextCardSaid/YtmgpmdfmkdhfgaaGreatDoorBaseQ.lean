/- More of the first texts of this claim in one: each with its own head. No statement is proved here. -/
import Derived.Test.YtmgpmdfmkdhfgaaGreatDoorBaseP
import Derived.Test.YtmgpmdfmkdhfgaaGreatDoorBaseN
import Derived.Deep.RegionWith
import Derived.Test.YtmgpmdfmkdhfgaaGreatDoorBaseM
import Derived.Test.YtmgpmdfmkdhfgaaGreatDoorShelf
import Derived.Test.YtmgpmdfmkdhfgaaGreatDoorBaseO
import Derived.Lib.OthersKept
import Derived.Shelf.Strings.SlTrimAscii
import Derived.BigRegion
import Derived.Deep.RegionHeld3
import Derived.Deep.RegionHeldLaw
import Derived.Deep.RegionLaw
import Derived.BigQuiet
namespace Go.Proofs.YtmgpmdfmkdhfgaaGreatDoor
open Go.RowKit
set_option linter.unusedVariables false
set_option linter.unusedSimpArgs false
set_option maxRecDepth 100000
set_option maxHeartbeats 16000000
theorem parseM_le {M:Nat}:∀ (l:List UInt8) (a n:Nat),a <= M -> Lib.parseUintM M a l = .ok n -> n <= M
 | [],a,n,ha,h=>by
  have:a = n:=by simpa [Lib.parseUintM] using h
  omega
 | c :: r,a,n,ha,h=>by
  unfold Lib.parseUintM at h;split at h
  ·split at h
   ·cases h
   ·split at h
    ·cases h
    ·exact parseM_le r _ n (by omega) h
  ·cases h
theorem parse31_le {l:List UInt8} {n:Nat} (h:parse31 l = some n):n <= 2147483647:=by
 unfold parse31 Lib.parseUintB at h
 by_cases h0:l = []
 ·rw [if_pos h0] at h;cases h
 ·rw [if_neg h0] at h;cases hp:Lib.parseUintM (2 ^ 31 - 1) 0 l with
  | ok m =>
   rw [hp] at h;have e:m = n:=by simpa using h
   rw [<- e];exact parseM_le l 0 m (by decide) hp
  | «syntax»=>rw [hp] at h;cases h
  | range=>rw [hp] at h;cases h
theorem gId_any (r s q:Bool) (A:Option Addr) (F:List FileL) (cap:Nat) (a:ByteArray) (w:World) (hF:FilesIn w (.slice A F.length cap) F) (hl:F.length <= 40) (hs:a.size <= 10000) :
  Calls Tryz.prog 150 #[.agg #[.bool r,.bool s,.bool q,.slice A F.length cap],.string a] w fun e w'=>e = .returned (valV (byId F a.data.toList)) /\ Below w.heap.size w w':=by
 have HF:=hide hF;have HL:=hide hl;have HS:=hide (show a.size <= 70368744177664 by omega);obtain ⟨X,hX⟩:∃ X,str (afterC 58 a.data.toList) = X:=⟨_,rfl⟩
 have hXl:afterC 58 a.data.toList = X.data.toList:=by rw [<- hX,str_toList]
 have HC:=hide (fun w2=>strCut_any a 58 w2 HS.out);rw [show cutV 58 a.data.toList = .tuple #[.string (str (beforeC 58 a.data.toList)),.string (str (afterC 58 a.data.toList)),.bool (hasC 58 a.data.toList)] from rfl,hX] at HC;obtain ⟨BF,hBF⟩:∃ BF,str (beforeC 58 a.data.toList) = BF:=⟨_,rfl⟩
 obtain ⟨HS2,hHS2⟩:∃ HS2,hasC 58 a.data.toList = HS2:=⟨_,rfl⟩
 rw [hBF,hHS2] at HC;have HFD:=hide (fun w2 hf=>attFind_any (.slice A F.length cap) F X w2 hf (Nat.le_trans HL.out (by decide)));cases hr:findL F X.data.toList with
 | none =>
  have HR:Hid (byId F a.data.toList = none):=hide (by unfold byId;rw [hXl,hr]);rw [hr] at HFD;clear hr hX hXl hBF hHS2 hF hl hs;go_enter Tryz.func150,Tryz.ntmps150;go_wp2_with fail;refine (HC.out _).mono ?_;rintro e w1 ⟨rfl,hb1⟩;obtain ⟨c0,c1,c2,c3⟩:=(GBox.new w r s q (.slice A F.length cap) 145).kept hb1;have HB1:=hide ((alloc_below w _).trans (hb1.mono (by simp)));clear hb1;go_wp2_with fail;refine (HFD.out _ (HF.out.kept HB1.out)).mono ?_;rintro e w2 ⟨rfl,hb2⟩;rw [show findV none = .tuple #[.int .i64 0,.bool false] from rfl];have HB2:=hide (HB1.out.trans (hb2.mono HB1.out.size));clear hb2;go_wp2_with fail;go_ret2;exact ⟨by rw [HR.out];rfl,HB2.out⟩
 | some n =>
  have hn:n < F.length:=findL_lt hr;have HR:Hid (byId F a.data.toList = picO F n):=hide (by unfold byId;rw [hXl,hr];rfl);obtain ⟨o,ho⟩:∃ o,picO F n = o:=⟨_,rfl⟩
  have HPC:=hide (fun w2 hf=>gPic_any r s q A F cap n w2 hf HL.out (by omega));rw [ho] at HR HPC;obtain ⟨S,hS⟩:∃ S,str (o.getD []) = S:=⟨_,rfl⟩
  obtain ⟨b,hb⟩:∃ b,o.isSome = b:=⟨_,rfl⟩
  have hV:valV o = .tuple #[.string S,.bool b]:=by unfold valV;rw [hS,hb]
  rw [hV] at HPC;have HV:=hide hV;rw [hr] at HFD;have HFV:Hid (findV (some n) = .tuple #[.int .i64 n,.bool true]):=hide rfl;rw [HFV.out] at HFD;clear hr hX hXl hBF hHS2 hF hl hs hn ho hS hb hV;go_enter Tryz.func150,Tryz.ntmps150;go_wp2_with fail;refine (HC.out _).mono ?_;rintro e w1 ⟨rfl,hb1⟩;have G1:=hide ((GBox.new w r s q (.slice A F.length cap) 145).kept hb1);obtain ⟨c0,c1,c2,c3⟩:=G1.out;have HB1:=hide ((alloc_below w _).trans (hb1.mono (by simp)));clear hb1;go_wp2_with fail;refine (HFD.out _ (HF.out.kept HB1.out)).mono ?_;rintro e w2 ⟨rfl,hb2⟩;clear c0 c1 c2 c3;obtain ⟨c0,c1,c2,c3⟩:=G1.out.kept hb2;have HB2:=hide (HB1.out.trans (hb2.mono HB1.out.size));clear hb2;go_wp2_with fail;refine (HPC.out _ (HF.out.kept HB2.out)).mono ?_;rintro e w3 ⟨rfl,hb3⟩;have HB3:=hide (HB2.out.trans (hb3.mono HB2.out.size));clear hb3;go_wp2_with fail;go_ret2;exact ⟨by rw [HR.out,HV.out];rfl,HB3.out⟩
theorem gNo_any (r s q:Bool) (A:Option Addr) (F:List FileL) (cap:Nat) (a:ByteArray) (w:World) (hF:FilesIn w (.slice A F.length cap) F) (hl:F.length <= 40) (hs:a.size <= 10000) (hE:EnvS w) :
  Calls Tryz.prog 151 #[.agg #[.bool r,.bool s,.bool q,.slice A F.length cap],.string a] w fun e w'=>e = .returned (valV (byNum F a.data.toList)) /\ Below w.heap.size w w':=by
 have HF:=hide hF;have HL:=hide hl;have HE:=hide hE;have HT:=hide (fun w2=>Tryz.strings_TrimPrefix a ⟨#[97,116,116,58]⟩ w2);obtain ⟨X,hX⟩:∃ X:ByteArray,(⟨(Lib.trimPrefix a.data.toList (⟨#[97,116,116,58]⟩:ByteArray).data.toList).toArray⟩:ByteArray) = X:=⟨_,rfl⟩
 have hXl:dropAtt a.data.toList = X.data.toList:=by rw [<- hX];rfl
 have hXs:X.size <= 1048576:=by
  rw [<- toList_length,<- hXl];unfold dropAtt;have:=toList_length a;split
  ·rw [List.length_drop];omega
  ·omega
 rw [hX] at HT;have HPU:=hide (fun w2 he=>parse31_any X w2 hXs he);clear hF hl hs hE hX hXs;cases hr:parse31 X.data.toList with
 | none =>
  have HR:Hid (byNum F a.data.toList = none):=hide (by unfold byNum;rw [hXl,hr]);rw [hr] at HPU;clear hr hXl;go_enter Tryz.func151,Tryz.ntmps151;go_wp2_with fail;refine (HT.out _).mono ?_;rintro e w1 ⟨rfl,rfl⟩;go_wp2_with fail;refine (HPU.out _ (HE.out.kept (alloc_below _ _))).mono ?_;rintro e w2 ⟨⟨m,N,rfl⟩,hb2⟩;have HB2:=hide ((alloc_below w _).trans (hb2.mono (by simp)));clear hb2;go_wp2_with fail;go_ret2;exact ⟨by rw [HR.out];rfl,HB2.out⟩
 | some n =>
  have hn:=parse31_le hr;have hwr:IntKind.i64.wrap (n:Int) = (n:Int):=IntWalk.i64_in _ (by omega);have HPC:=hide (fun w2 hf=>gPic_any r s q A F cap n w2 hf HL.out hn);have HB0:byNum F a.data.toList = if imgAt F n = true /\ attN n = a.data.toList then some a.data.toList else none:=by unfold byNum;rw [hXl,hr]
  rw [hr] at HPU;have HUV:Hid (∀ e,U31 (some n) e -> e = .returned (.tuple #[.int .u64 n,.nilIface])):=hide (fun e h=>h);clear hr hXl;cases hi:imgAt F n with
  | false =>
   have HR:Hid (byNum F a.data.toList = none):=hide (by rw [HB0,hi];rfl);rw [picO_no hi] at HPC;clear HB0 hi;go_enter Tryz.func151,Tryz.ntmps151;go_wp2_with fail;refine (HT.out _).mono ?_;rintro e w1 ⟨rfl,rfl⟩;go_wp2_with fail;refine (HPU.out _ (HE.out.kept (alloc_below _ _))).mono ?_;rintro e w2 ⟨he,hb2⟩;obtain rfl:=HUV.out _ he;clear he;obtain ⟨c0,c1,c2,c3⟩:=(GBox.new w r s q (.slice A F.length cap) 145).kept hb2;have HB2:=hide ((alloc_below w _).trans (hb2.mono (by simp)));clear hb2;go_wp2_with fail;refine (HPC.out _ (HF.out.kept HB2.out)).mono ?_;rintro e w3 ⟨rfl,hb3⟩;have HB3:=hide (HB2.out.trans (hb3.mono HB2.out.size));clear hb3;go_wp2_with fail;refine (onlyF_any _ _).mono ?_;rintro e wo ⟨rfl,rfl⟩;go_wp2_with fail;go_ret2;exact ⟨by rw [HR.out];rfl,HB3.out⟩
  | true =>
   rw [show valV (picO F n) = .tuple #[.string (str (attN n)),.bool true] by unfold picO;rw [if_pos hi];rfl] at HPC;obtain ⟨S,hS⟩:∃ S,str (attN n) = S:=⟨_,rfl⟩
   have hSl:attN n = S.data.toList:=by rw [<- hS,str_toList]
   rw [hS] at HPC
   by_cases hq:attN n = a.data.toList
   ·have t1:(S.toList == a.toList) = true:=by rw [bytes_list,bytes_list,<- hSl,hq];exact beq_self_eq_true _
    have HR:Hid (byNum F a.data.toList = some a.data.toList):=hide (by rw [HB0,hi,if_pos ⟨rfl,hq⟩]);clear HB0 hi hq hS hSl;go_enter Tryz.func151,Tryz.ntmps151;go_wp2_with fail;refine (HT.out _).mono ?_;rintro e w1 ⟨rfl,rfl⟩;go_wp2_with fail;refine (HPU.out _ (HE.out.kept (alloc_below _ _))).mono ?_;rintro e w2 ⟨he,hb2⟩;obtain rfl:=HUV.out _ he;clear he;obtain ⟨c0,c1,c2,c3⟩:=(GBox.new w r s q (.slice A F.length cap) 145).kept hb2;have HB2:=hide ((alloc_below w _).trans (hb2.mono (by simp)));clear hb2;go_wp2_with fail;refine (HPC.out _ (HF.out.kept HB2.out)).mono ?_;rintro e w3 ⟨rfl,hb3⟩;have HB3:=hide (HB2.out.trans (hb3.mono HB2.out.size));clear hb3;go_wp2_with fail;refine (onlyT_any _ _).mono ?_;rintro e wo ⟨rfl,rfl⟩;go_wp2_with fail;go_ret2;exact ⟨by rw [HR.out,valV_some];rfl,HB3.out⟩
   ·have t1:(S.toList == a.toList) = false:=by rw [bytes_list,bytes_list,<- hSl];exact beq_eq_false_iff_ne.2 hq
    have HR:Hid (byNum F a.data.toList = none):=hide (by rw [HB0,if_neg (fun h=>hq h.2)]);clear HB0 hi hq hS hSl;go_enter Tryz.func151,Tryz.ntmps151;go_wp2_with fail;refine (HT.out _).mono ?_;rintro e w1 ⟨rfl,rfl⟩;go_wp2_with fail;refine (HPU.out _ (HE.out.kept (alloc_below _ _))).mono ?_;rintro e w2 ⟨he,hb2⟩;obtain rfl:=HUV.out _ he;clear he;obtain ⟨c0,c1,c2,c3⟩:=(GBox.new w r s q (.slice A F.length cap) 145).kept hb2;have HB2:=hide ((alloc_below w _).trans (hb2.mono (by simp)));clear hb2;go_wp2_with fail;refine (HPC.out _ (HF.out.kept HB2.out)).mono ?_;rintro e w3 ⟨rfl,hb3⟩;have HB3:=hide (HB2.out.trans (hb3.mono HB2.out.size));clear hb3;go_wp2_with fail;refine (onlyF_any _ _).mono ?_;rintro e wo ⟨rfl,rfl⟩;go_wp2_with fail;go_ret2;exact ⟨by rw [HR.out];rfl,HB3.out⟩
theorem gSrc_any (r s q:Bool) (A:Option Addr) (F:List FileL) (cap:Nat) (v:ByteArray) (w:World) (hF:FilesIn w (.slice A F.length cap) F) (hl:F.length <= 40) (hs:v.size <= 10000) (hEU:EnvU w) (hES:EnvS w) :
  Calls Tryz.prog 123 #[.agg #[.bool r,.bool s,.bool q,.slice A F.length cap],.string v] w fun e w'=>e = .returned (valV (srcL r F (lkClean v.data.toList))) /\ Below w.heap.size w w':=by
 have HF:=hide hF;have HL:=hide hl;have HEU:=hide hEU;have HES:=hide hES;have HS:=hide (show v.size <= 1048576 by omega);have HKC:=hide (fun w2 he=>linkKind_any v w2 HS.out he);have HCL:=hide (fun w2 he=>linkClean_any v w2 HS.out he);obtain ⟨X,hX⟩:∃ X,str (lkClean v.data.toList) = X:=⟨_,rfl⟩
 have hXl:lkClean v.data.toList = X.data.toList:=by rw [<- hX,str_toList]
 have HXS:Hid (X.size <= 10000):=hide (by
  rw [<- toList_length,<- hXl];have:=clean_length v.data.toList;rw [toList_length] at this;omega)
 rw [hX] at HCL;rw [hXl] at HKC ⊢;clear hF hl hs hEU hES hX hXl;rcases kind_cases X.data.toList with h | h | h | h | h | h
 ·have HR:Hid (srcL r F X.data.toList = byNum F X.data.toList):=hide (by unfold srcL;rw [h];rfl);rw [h] at HKC;clear h;obtain ⟨o,ho⟩:∃ o,byNum F X.data.toList = o:=⟨_,rfl⟩
  obtain ⟨S,hS⟩:∃ S,str (o.getD []) = S:=⟨_,rfl⟩
  obtain ⟨b,hb⟩:∃ b,o.isSome = b:=⟨_,rfl⟩
  have HV:Hid (valV o = .tuple #[.string S,.bool b]):=hide (by unfold valV;rw [hS,hb]);rw [ho] at HR;have HCC:=hide (fun w2 hf he=>gNo_any r s q A F cap X w2 hf HL.out HXS.out he);rw [ho] at HCC;clear ho hS hb;go_enter Tryz.func123,Tryz.ntmps123;go_wp2_with fail;refine (HCL.out _ (HEU.out.kept (alloc_below _ _))).mono ?_;rintro e w1 ⟨rfl,hb1⟩;have G1:=hide ((GBox.new w r s q (.slice A F.length cap) 145).kept hb1);have HB1:=hide ((alloc_below w _).trans (hb1.mono (by simp)));clear hb1;go_wp2_with fail;refine (HKC.out _ (HEU.out.kept HB1.out)).mono ?_;rintro e w2 ⟨rfl,hb2⟩;obtain ⟨c0,c1,c2,c3⟩:=G1.out.kept hb2;have HB2:=hide (HB1.out.trans (hb2.mono HB1.out.size));clear hb2;go_wp2_with fail;refine (HCC.out _ (HF.out.kept HB2.out) (HES.out.kept HB2.out)).mono ?_;rintro e w3 ⟨rfl,hb3⟩;rw [HV.out];have HB3:=hide (HB2.out.trans (hb3.mono HB2.out.size));clear hb3;go_wp2_with fail;go_ret2;exact ⟨by rw [HR.out,HV.out];rfl,HB3.out⟩
 ·have HR:Hid (srcL r F X.data.toList = byNum F X.data.toList):=hide (by unfold srcL;rw [h];rfl);rw [h] at HKC;clear h;obtain ⟨o,ho⟩:∃ o,byNum F X.data.toList = o:=⟨_,rfl⟩
  obtain ⟨S,hS⟩:∃ S,str (o.getD []) = S:=⟨_,rfl⟩
  obtain ⟨b,hb⟩:∃ b,o.isSome = b:=⟨_,rfl⟩
  have HV:Hid (valV o = .tuple #[.string S,.bool b]):=hide (by unfold valV;rw [hS,hb]);rw [ho] at HR;have HCC:=hide (fun w2 hf he=>gNo_any r s q A F cap X w2 hf HL.out HXS.out he);rw [ho] at HCC;clear ho hS hb;go_enter Tryz.func123,Tryz.ntmps123;go_wp2_with fail;refine (HCL.out _ (HEU.out.kept (alloc_below _ _))).mono ?_;rintro e w1 ⟨rfl,hb1⟩;have G1:=hide ((GBox.new w r s q (.slice A F.length cap) 145).kept hb1);have HB1:=hide ((alloc_below w _).trans (hb1.mono (by simp)));clear hb1;go_wp2_with fail;refine (HKC.out _ (HEU.out.kept HB1.out)).mono ?_;rintro e w2 ⟨rfl,hb2⟩;obtain ⟨c0,c1,c2,c3⟩:=G1.out.kept hb2;have HB2:=hide (HB1.out.trans (hb2.mono HB1.out.size));clear hb2;go_wp2_with fail;refine (HCC.out _ (HF.out.kept HB2.out) (HES.out.kept HB2.out)).mono ?_;rintro e w3 ⟨rfl,hb3⟩;rw [HV.out];have HB3:=hide (HB2.out.trans (hb3.mono HB2.out.size));clear hb3;go_wp2_with fail;go_ret2;exact ⟨by rw [HR.out,HV.out];rfl,HB3.out⟩
 ·rw [h] at HKC;cases r
  ·have HR:Hid (srcL false F X.data.toList = none):=hide (by unfold srcL;rw [h];rfl);clear h;go_enter Tryz.func123,Tryz.ntmps123;go_wp2_with fail;refine (HCL.out _ (HEU.out.kept (alloc_below _ _))).mono ?_;rintro e w1 ⟨rfl,hb1⟩;have G1:=hide ((GBox.new w _ s q (.slice A F.length cap) 145).kept hb1);have HB1:=hide ((alloc_below w _).trans (hb1.mono (by simp)));clear hb1;go_wp2_with fail;refine (HKC.out _ (HEU.out.kept HB1.out)).mono ?_;rintro e w2 ⟨rfl,hb2⟩;obtain ⟨c0,c1,c2,c3⟩:=G1.out.kept hb2;have HB2:=hide (HB1.out.trans (hb2.mono HB1.out.size));clear hb2;go_wp2_with fail;refine (onlyF_any _ _).mono ?_;rintro e wo ⟨rfl,rfl⟩;go_wp2_with fail;go_ret2;exact ⟨by rw [HR.out];rfl,HB2.out⟩
  ·have HR:Hid (srcL true F X.data.toList = some X.data.toList):=hide (by unfold srcL;rw [h];rfl);clear h;go_enter Tryz.func123,Tryz.ntmps123;go_wp2_with fail;refine (HCL.out _ (HEU.out.kept (alloc_below _ _))).mono ?_;rintro e w1 ⟨rfl,hb1⟩;have G1:=hide ((GBox.new w _ s q (.slice A F.length cap) 145).kept hb1);have HB1:=hide ((alloc_below w _).trans (hb1.mono (by simp)));clear hb1;go_wp2_with fail;refine (HKC.out _ (HEU.out.kept HB1.out)).mono ?_;rintro e w2 ⟨rfl,hb2⟩;obtain ⟨c0,c1,c2,c3⟩:=G1.out.kept hb2;have HB2:=hide (HB1.out.trans (hb2.mono HB1.out.size));clear hb2;go_wp2_with fail;refine (onlyT_any _ _).mono ?_;rintro e wo ⟨rfl,rfl⟩;go_wp2_with fail;go_ret2;exact ⟨by rw [HR.out,valV_some];rfl,HB2.out⟩
 ·have HR:Hid (srcL r F X.data.toList = byNum F X.data.toList):=hide (by unfold srcL;rw [h];rfl);rw [h] at HKC;clear h;obtain ⟨o,ho⟩:∃ o,byNum F X.data.toList = o:=⟨_,rfl⟩
  obtain ⟨S,hS⟩:∃ S,str (o.getD []) = S:=⟨_,rfl⟩
  obtain ⟨b,hb⟩:∃ b,o.isSome = b:=⟨_,rfl⟩
  have HV:Hid (valV o = .tuple #[.string S,.bool b]):=hide (by unfold valV;rw [hS,hb]);rw [ho] at HR;have HCC:=hide (fun w2 hf he=>gNo_any r s q A F cap X w2 hf HL.out HXS.out he);rw [ho] at HCC;clear ho hS hb;go_enter Tryz.func123,Tryz.ntmps123;go_wp2_with fail;refine (HCL.out _ (HEU.out.kept (alloc_below _ _))).mono ?_;rintro e w1 ⟨rfl,hb1⟩;have G1:=hide ((GBox.new w r s q (.slice A F.length cap) 145).kept hb1);have HB1:=hide ((alloc_below w _).trans (hb1.mono (by simp)));clear hb1;go_wp2_with fail;refine (HKC.out _ (HEU.out.kept HB1.out)).mono ?_;rintro e w2 ⟨rfl,hb2⟩;obtain ⟨c0,c1,c2,c3⟩:=G1.out.kept hb2;have HB2:=hide (HB1.out.trans (hb2.mono HB1.out.size));clear hb2;go_wp2_with fail;refine (HCC.out _ (HF.out.kept HB2.out) (HES.out.kept HB2.out)).mono ?_;rintro e w3 ⟨rfl,hb3⟩;rw [HV.out];have HB3:=hide (HB2.out.trans (hb3.mono HB2.out.size));clear hb3;go_wp2_with fail;go_ret2;exact ⟨by rw [HR.out,HV.out];rfl,HB3.out⟩
 ·have HR:Hid (srcL r F X.data.toList = byId F X.data.toList):=hide (by unfold srcL;rw [h];rfl);rw [h] at HKC;clear h;obtain ⟨o,ho⟩:∃ o,byId F X.data.toList = o:=⟨_,rfl⟩
  obtain ⟨S,hS⟩:∃ S,str (o.getD []) = S:=⟨_,rfl⟩
  obtain ⟨b,hb⟩:∃ b,o.isSome = b:=⟨_,rfl⟩
  have HV:Hid (valV o = .tuple #[.string S,.bool b]):=hide (by unfold valV;rw [hS,hb]);rw [ho] at HR;have HCC:=hide (fun w2 hf=>gId_any r s q A F cap X w2 hf HL.out HXS.out);rw [ho] at HCC;clear ho hS hb;go_enter Tryz.func123,Tryz.ntmps123;go_wp2_with fail;refine (HCL.out _ (HEU.out.kept (alloc_below _ _))).mono ?_;rintro e w1 ⟨rfl,hb1⟩;have G1:=hide ((GBox.new w r s q (.slice A F.length cap) 145).kept hb1);have HB1:=hide ((alloc_below w _).trans (hb1.mono (by simp)));clear hb1;go_wp2_with fail;refine (HKC.out _ (HEU.out.kept HB1.out)).mono ?_;rintro e w2 ⟨rfl,hb2⟩;obtain ⟨c0,c1,c2,c3⟩:=G1.out.kept hb2;have HB2:=hide (HB1.out.trans (hb2.mono HB1.out.size));clear hb2;go_wp2_with fail;refine (HCC.out _ (HF.out.kept HB2.out)).mono ?_;rintro e w3 ⟨rfl,hb3⟩;rw [HV.out];have HB3:=hide (HB2.out.trans (hb3.mono HB2.out.size));clear hb3;go_wp2_with fail;go_ret2;exact ⟨by rw [HR.out,HV.out];rfl,HB3.out⟩
 ·have HR:Hid (srcL r F X.data.toList = byNum F X.data.toList):=hide (by unfold srcL;rw [h];rfl);rw [h] at HKC;clear h;obtain ⟨o,ho⟩:∃ o,byNum F X.data.toList = o:=⟨_,rfl⟩
  obtain ⟨S,hS⟩:∃ S,str (o.getD []) = S:=⟨_,rfl⟩
  obtain ⟨b,hb⟩:∃ b,o.isSome = b:=⟨_,rfl⟩
  have HV:Hid (valV o = .tuple #[.string S,.bool b]):=hide (by unfold valV;rw [hS,hb]);rw [ho] at HR;have HCC:=hide (fun w2 hf he=>gNo_any r s q A F cap X w2 hf HL.out HXS.out he);rw [ho] at HCC;clear ho hS hb;go_enter Tryz.func123,Tryz.ntmps123;go_wp2_with fail;refine (HCL.out _ (HEU.out.kept (alloc_below _ _))).mono ?_;rintro e w1 ⟨rfl,hb1⟩;have G1:=hide ((GBox.new w r s q (.slice A F.length cap) 145).kept hb1);have HB1:=hide ((alloc_below w _).trans (hb1.mono (by simp)));clear hb1;go_wp2_with fail;refine (HKC.out _ (HEU.out.kept HB1.out)).mono ?_;rintro e w2 ⟨rfl,hb2⟩;obtain ⟨c0,c1,c2,c3⟩:=G1.out.kept hb2;have HB2:=hide (HB1.out.trans (hb2.mono HB1.out.size));clear hb2;go_wp2_with fail;refine (HCC.out _ (HF.out.kept HB2.out) (HES.out.kept HB2.out)).mono ?_;rintro e w3 ⟨rfl,hb3⟩;rw [HV.out];have HB3:=hide (HB2.out.trans (hb3.mono HB2.out.size));clear hb3;go_wp2_with fail;go_ret2;exact ⟨by rw [HR.out,HV.out];rfl,HB3.out⟩
theorem raw_any (n:ByteArray) (w:World) :
  Calls Tryz.prog 24 #[.string n] w fun e w'=>e = .returned (.bool (rawL.contains n.data.toList)) /\ w = w':=by
 cases hk:rawL.contains n.data.toList with
 | true =>
  rcases rawL_cases _ hk with h | h | h | h | h | h | h | h | h | h
  iterate 10
   ·obtain rfl:=ext_lit h;clear hk h;go_enter Tryz.func24,Tryz.ntmps24;go_wp2_with fail;go_ret;exact ⟨rfl,rfl⟩
 | false =>
  obtain ⟨n0,n1,n2,n3,n4,n5,n6,n7,n8,n9⟩:=rawL_none _ hk;have t0:=nb_lit n0;have t1:=nb_lit n1;have t2:=nb_lit n2;have t3:=nb_lit n3;have t4:=nb_lit n4;have t5:=nb_lit n5;have t6:=nb_lit n6;have t7:=nb_lit n7;have t8:=nb_lit n8;have t9:=nb_lit n9;clear hk n0 n1 n2 n3 n4 n5 n6 n7 n8 n9;go_enter Tryz.func24,Tryz.ntmps24;go_wp2_with fail;go_ret;exact ⟨rfl,rfl⟩
theorem element_any (n:ByteArray) (w:World) :
  Calls Tryz.prog 12 #[.string n] w fun e w'=>e = .returned (.int .i64 ((elemN n.data.toList:Nat):Int)) /\ w = w':=by
 cases hk:staysL.contains n.data.toList with
 | true =>
  have hv:((elemN n.data.toList:Nat):Int) = 2:=by unfold elemN;rw [if_pos hk];rfl
  rw [hv];clear hv;rcases staysL_cases _ hk with h | h | h | h | h | h | h | h | h | h | h | h | h | h | h | h | h | h | h | h | h | h | h | h | h | h | h | h | h | h | h
  iterate 31
   ·obtain rfl:=ext_lit h;clear hk h;go_enter Tryz.func12,Tryz.ntmps12;go_wp2_with fail;go_ret;exact ⟨rfl,rfl⟩
 | false =>
  cases hd:dropsL.contains n.data.toList with
  | true =>
   have hv:((elemN n.data.toList:Nat):Int) = 0:=by unfold elemN;rw [if_neg (by rw [hk];decide),if_pos hd];rfl
   rw [hv];clear hv;rcases dropsL_cases _ hd with h | h | h | h | h | h | h | h | h | h | h | h | h | h | h | h | h | h | h | h | h
   iterate 21
    ·obtain rfl:=ext_lit h;clear hk hd h;go_enter Tryz.func12,Tryz.ntmps12;go_wp2_with fail;go_ret;exact ⟨rfl,rfl⟩
  | false =>
   obtain ⟨n0,n1,n2,n3,n4,n5,n6,n7,n8,n9,n10,n11,n12,n13,n14,n15,n16,n17,n18,n19,n20,n21,n22,n23,n24,n25,n26,n27,n28,n29,n30⟩:=staysL_none _ hk;obtain ⟨m0,m1,m2,m3,m4,m5,m6,m7,m8,m9,m10,m11,m12,m13,m14,m15,m16,m17,m18,m19,m20⟩:=dropsL_none _ hd;have t0:=nb_lit n0;have t1:=nb_lit n1;have t2:=nb_lit n2;have t3:=nb_lit n3;have t4:=nb_lit n4;have t5:=nb_lit n5;have t6:=nb_lit n6;have t7:=nb_lit n7;have t8:=nb_lit n8;have t9:=nb_lit n9;have t10:=nb_lit n10;have t11:=nb_lit n11;have t12:=nb_lit n12;have t13:=nb_lit n13;have t14:=nb_lit n14;have t15:=nb_lit n15;have t16:=nb_lit n16;have t17:=nb_lit n17;have t18:=nb_lit n18;have t19:=nb_lit n19;have t20:=nb_lit n20;have t21:=nb_lit n21;have t22:=nb_lit n22;have t23:=nb_lit n23;have t24:=nb_lit n24;have t25:=nb_lit n25;have t26:=nb_lit n26;have t27:=nb_lit n27;have t28:=nb_lit n28;have t29:=nb_lit n29;have t30:=nb_lit n30;have u0:=nb_lit m0;have u1:=nb_lit m1;have u2:=nb_lit m2;have u3:=nb_lit m3;have u4:=nb_lit m4;have u5:=nb_lit m5;have u6:=nb_lit m6;have u7:=nb_lit m7;have u8:=nb_lit m8;have u9:=nb_lit m9;have u10:=nb_lit m10;have u11:=nb_lit m11;have u12:=nb_lit m12;have u13:=nb_lit m13;have u14:=nb_lit m14;have u15:=nb_lit m15;have u16:=nb_lit m16;have u17:=nb_lit m17;have u18:=nb_lit m18;have u19:=nb_lit m19;have u20:=nb_lit m20
   cases hr:rawL.contains n.data.toList with
   | true =>
    have hv:((elemN n.data.toList:Nat):Int) = 0:=by unfold elemN;rw [if_neg (by rw [hk];decide),if_neg (by rw [hd];decide),if_pos hr];rfl
    rw [hv];have HR:=hide hr;clear hv hk hd hr n0 n1 n2 n3 n4 n5 n6 n7 n8 n9 n10 n11 n12 n13 n14 n15 n16 n17 n18 n19 n20 n21 n22 n23 n24 n25 n26 n27 n28 n29 n30 m0 m1 m2 m3 m4 m5 m6 m7 m8 m9 m10 m11 m12 m13 m14 m15 m16 m17 m18 m19 m20;go_enter Tryz.func12,Tryz.ntmps12;go_wp2_with fail;refine (raw_any n _).mono ?_;rintro e w1 ⟨rfl,rfl⟩;rw [HR.out];go_wp2_with fail;go_ret;exact ⟨rfl,rfl⟩
   | false =>
    have hv:((elemN n.data.toList:Nat):Int) = 1:=by unfold elemN;rw [if_neg (by rw [hk];decide),if_neg (by rw [hd];decide),if_neg (by rw [hr];decide)];rfl
    rw [hv];have HR:=hide hr;clear hv hk hd hr n0 n1 n2 n3 n4 n5 n6 n7 n8 n9 n10 n11 n12 n13 n14 n15 n16 n17 n18 n19 n20 n21 n22 n23 n24 n25 n26 n27 n28 n29 n30 m0 m1 m2 m3 m4 m5 m6 m7 m8 m9 m10 m11 m12 m13 m14 m15 m16 m17 m18 m19 m20;go_enter Tryz.func12,Tryz.ntmps12;go_wp2_with fail;refine (raw_any n _).mono ?_;rintro e w1 ⟨rfl,rfl⟩;rw [HR.out];go_wp2_with fail;go_ret;exact ⟨rfl,rfl⟩
theorem attr_any (e n:ByteArray) (w:World) :
  Calls Tryz.prog 19 #[.string e,.string n] w fun r w'=>r = .returned (.bool (attrB e.data.toList n.data.toList)) /\ w = w':=by
 cases hk:attrsL.contains n.data.toList with
 | true =>
  rcases attrsL_cases _ hk with h | h | h | h | h | h | h | h | h | h | h
  ·obtain rfl:=ext_lit h;have hv:attrB e.data.toList (⟨#[116,105,116,108,101]⟩:ByteArray).data.toList = (((elemN e.data.toList:Nat):Int) == 2):=rfl;rw [hv];clear hk h hv;go_enter Tryz.func19,Tryz.ntmps19;go_wp2_with fail;refine (element_any e _).mono ?_;rintro r w1 ⟨rfl,rfl⟩;go_wp2_with fail;go_ret;exact ⟨rfl,rfl⟩
  ·obtain rfl:=ext_lit h;have hv:attrB e.data.toList (⟨#[100,105,114]⟩:ByteArray).data.toList = (((elemN e.data.toList:Nat):Int) == 2):=rfl;rw [hv];clear hk h hv;go_enter Tryz.func19,Tryz.ntmps19;go_wp2_with fail;refine (element_any e _).mono ?_;rintro r w1 ⟨rfl,rfl⟩;go_wp2_with fail;go_ret;exact ⟨rfl,rfl⟩
  ·obtain rfl:=ext_lit h;have hv:attrB e.data.toList (⟨#[108,97,110,103]⟩:ByteArray).data.toList = (((elemN e.data.toList:Nat):Int) == 2):=rfl;rw [hv];clear hk h hv;go_enter Tryz.func19,Tryz.ntmps19;go_wp2_with fail;refine (element_any e _).mono ?_;rintro r w1 ⟨rfl,rfl⟩;go_wp2_with fail;go_ret;exact ⟨rfl,rfl⟩
  ·obtain rfl:=ext_lit h;have hv:attrB e.data.toList (⟨#[115,116,121,108,101]⟩:ByteArray).data.toList = (((elemN e.data.toList:Nat):Int) == 2):=rfl;rw [hv];clear hk h hv;go_enter Tryz.func19,Tryz.ntmps19;go_wp2_with fail;refine (element_any e _).mono ?_;rintro r w1 ⟨rfl,rfl⟩;go_wp2_with fail;go_ret;exact ⟨rfl,rfl⟩
  ·obtain rfl:=ext_lit h;have hv:attrB e.data.toList (⟨#[104,114,101,102]⟩:ByteArray).data.toList = (e.data.toList == [97]):=rfl;rw [hv];clear hk h hv;rw [<- bytes_list];go_enter Tryz.func19,Tryz.ntmps19;go_wp2_with fail;go_ret;exact ⟨rfl,rfl⟩
  ·obtain rfl:=ext_lit h;have hv:attrB e.data.toList (⟨#[115,114,99]⟩:ByteArray).data.toList = (e.data.toList == [105,109,103]):=rfl;rw [hv];clear hk h hv;rw [<- bytes_list];go_enter Tryz.func19,Tryz.ntmps19;go_wp2_with fail;go_ret;exact ⟨rfl,rfl⟩
  ·obtain rfl:=ext_lit h;have hv:attrB e.data.toList (⟨#[97,108,116]⟩:ByteArray).data.toList = (e.data.toList == [105,109,103]):=rfl;rw [hv];clear hk h hv;rw [<- bytes_list];go_enter Tryz.func19,Tryz.ntmps19;go_wp2_with fail;go_ret;exact ⟨rfl,rfl⟩
  ·obtain rfl:=ext_lit h;have hv:attrB e.data.toList (⟨#[119,105,100,116,104]⟩:ByteArray).data.toList = (e.data.toList == [105,109,103]):=rfl;rw [hv];clear hk h hv;rw [<- bytes_list];go_enter Tryz.func19,Tryz.ntmps19;go_wp2_with fail;go_ret;exact ⟨rfl,rfl⟩
  ·obtain rfl:=ext_lit h;have hv:attrB e.data.toList (⟨#[104,101,105,103,104,116]⟩:ByteArray).data.toList = (e.data.toList == [105,109,103]):=rfl;rw [hv];clear hk h hv;rw [<- bytes_list];go_enter Tryz.func19,Tryz.ntmps19;go_wp2_with fail;go_ret;exact ⟨rfl,rfl⟩
  ·obtain rfl:=ext_lit h;have hv:attrB e.data.toList (⟨#[115,116,97,114,116]⟩:ByteArray).data.toList = (e.data.toList == [111,108]):=rfl;rw [hv];clear hk h hv;rw [<- bytes_list];go_enter Tryz.func19,Tryz.ntmps19;go_wp2_with fail;go_ret;exact ⟨rfl,rfl⟩
  ·obtain rfl:=ext_lit h;have hv:attrB e.data.toList (⟨#[118,97,108,117,101]⟩:ByteArray).data.toList = (e.data.toList == [108,105]):=rfl;rw [hv];clear hk h hv;rw [<- bytes_list];go_enter Tryz.func19,Tryz.ntmps19;go_wp2_with fail;go_ret;exact ⟨rfl,rfl⟩
 | false =>
  have hv:=attrB_none e.data.toList _ hk;rw [hv];obtain ⟨n0,n1,n2,n3,n4,n5,n6,n7,n8,n9,n10⟩:=attrsL_none _ hk;have t0:=nb_lit n0;have t1:=nb_lit n1;have t2:=nb_lit n2;have t3:=nb_lit n3;have t4:=nb_lit n4;have t5:=nb_lit n5;have t6:=nb_lit n6;have t7:=nb_lit n7;have t8:=nb_lit n8;have t9:=nb_lit n9;have t10:=nb_lit n10;clear hv hk n0 n1 n2 n3 n4 n5 n6 n7 n8 n9 n10;go_enter Tryz.func19,Tryz.ntmps19;go_wp2_with fail;go_ret;exact ⟨rfl,rfl⟩
theorem value_gen (K:FuncId) (o:Option (List UInt8)) (r s q:Bool) (A:Option Addr) (F:List FileL) (cap:Nat) (e n v:ByteArray) (w:World) (hn:n.size <= maxLen) (ha:attrB e.data.toList n.data.toList = true)
  (hj:judF (.agg #[.bool r,.bool s,.bool q,.slice A F.length cap]) n.data.toList = some (.func (.func K) #[.agg #[.bool r,.bool s,.bool q,.slice A F.length cap]] #[])) (hK:∀ args w,(callFunc K args).run Tryz.prog w = .ok (.enter K args) w)
  (hc:∀ w2,Below w.heap.size w w2 -> Calls Tryz.prog K #[.agg #[.bool r,.bool s,.bool q,.slice A F.length cap],.string v] w2 fun x w'=>x = .returned (valV o) /\ Below w2.heap.size w2 w') :
  Calls Tryz.prog 88 #[.agg #[.bool r,.bool s,.bool q],.slice A F.length cap,.string e,.agg #[.string n,.string v]] w fun x w'=>x = .returned (valV o) /\ Below w.heap.size w w':=by
 have HA:=hide ha;have HCC:=hide hc;have HJ:=hide hj;have HN:=hide hn;clear ha hc hj hn;obtain ⟨S,hS⟩:∃ S,str (o.getD []) = S:=⟨_,rfl⟩
 obtain ⟨b,hb⟩:∃ b,o.isSome = b:=⟨_,rfl⟩
 have HV:Hid (valV o = .tuple #[.string S,.bool b]):=hide (by unfold valV;rw [hS,hb]);rw [HV.out] at HCC;clear hS hb;obtain ⟨W,hW⟩:∃ W,(((w.alloc (.cells #[.bool r,.bool s,.bool q] 23)).alloc (.cells #[.string n,.string v] 47)).alloc (.cells #[.bool r,.bool s,.bool q,.slice A F.length cap] 145)) = W:=⟨_,rfl⟩
 have HG:Hid (GBox W (w.heap.size + 1 + 1) r s q (.slice A F.length cap)):=hide (by
  rw [<- hW];have:=GBox.new ((w.alloc (.cells #[.bool r,.bool s,.bool q] 23)).alloc (.cells #[.string n,.string v] 47)) r s q (.slice A F.length cap) 145;rw [World.size_alloc,World.size_alloc] at this;exact this)
 have HD0:Hid (W.cell? ⟨w.heap.size + 1,0,none⟩ = some (.string n)):=hide (by
  rw [<- hW];exact ((alloc_below _ _).cell (p:=⟨w.heap.size + 1,0,none⟩) (by rw [World.size_alloc,World.size_alloc];exact Nat.lt_succ_self _)).trans (by rw [World.cell?_alloc_at _ _ _ _ (by first | exact (World.size_alloc _ _).symm | exact World.size_alloc _ _)];rfl))
 have HD1:Hid (W.cell? ⟨w.heap.size + 1,1,none⟩ = some (.string v)):=hide (by
  rw [<- hW];exact ((alloc_below _ _).cell (p:=⟨w.heap.size + 1,1,none⟩) (by rw [World.size_alloc,World.size_alloc];exact Nat.lt_succ_self _)).trans (by rw [World.cell?_alloc_at _ _ _ _ (by first | exact (World.size_alloc _ _).symm | exact World.size_alloc _ _)];rfl))
 have HZ:Hid (w.heap.size + 1 < W.heap.size):=hide (by rw [<- hW];simp)
 have HB:Hid (Below w.heap.size w W):=hide (by
  rw [<- hW];exact (((Below.refl _ _).alloc (Nat.le_refl _) _).alloc (by rw [World.size_alloc];exact Nat.le_succ _) _).alloc (by rw [World.size_alloc,World.size_alloc];exact Nat.le_trans (Nat.le_succ _) (Nat.le_succ _)) _)
 go_enter Tryz.func88,Tryz.ntmps88;go_wp2_with fail;refine (attr_any e n _).mono ?_;rintro x w1 ⟨rfl,rfl⟩;rw [HA.out];go_wp2_with fail;clear hW;obtain ⟨g0,g1,g2,g3⟩:=HG.out;have d0:=HD0.out;have d1:=HD1.out
 go_region_with (first
  |((with_reducible refine (judgesE_any r s q A F.length cap _).mono ?_);rintro x w2 ⟨bm,rfl,hF2,hb2⟩;have hl2:=hF2.look mapT_ty (zeroFn _) n HN.out _ HJ.out;have HB2:=hide (HB.out.drew.trans (hb2.mono HB.out.drew.size));have e0:=(hb2.cell (p:=⟨w.heap.size + 1,0,none⟩) HZ.out).trans HD0.out;have e1:=(hb2.cell (p:=⟨w.heap.size + 1,1,none⟩) HZ.out).trans HD1.out;clear hF2 hb2)
  |((with_reducible refine (HCC.out _ HB2.out).mono ?_);rintro x w3 ⟨rfl,hb3⟩;have HB3:=hide (HB2.out.trans (hb3.mono HB2.out.size));clear hb3))
 all_goals
  try go_wp2_with fail
  go_ret2;exact ⟨by rw [HV.out];rfl,HB3.out⟩
theorem value_href (r s q:Bool) (A:Option Addr) (F:List FileL) (cap:Nat) (e v:ByteArray) (w:World) (hF:FilesIn w (.slice A F.length cap) F) (hl:F.length <= 40) (hs:v.size <= 10000) (hEU:EnvU w) (hEC:EnvC w) (hES:EnvS w) (ha:attrB e.data.toList [104,114,101,102] = true) :
  Calls Tryz.prog 88 #[.agg #[.bool r,.bool s,.bool q],.slice A F.length cap,.string e,.agg #[.string ⟨#[104,114,101,102]⟩,.string v]] w fun x w'=>x = .returned (valV (valN r s F [104,114,101,102] v.data.toList)) /\ Below w.heap.size w w':=by
 have HF:=hide hF;have HL:=hide hl;have HS:=hide hs;have HEU:=hide hEU;have HEC:=hide hEC;have HES:=hide hES;exact value_gen 122 _ r s q A F cap e ⟨#[104,114,101,102]⟩ v w (by decide) ha (judF_href _) (enters_of Tryz.func122 (by kernel_rfl) rfl) (fun w2 hw2=>gHref_any r s q A F cap v w2 HS.out (HEU.out.kept hw2))
theorem value_src (r s q:Bool) (A:Option Addr) (F:List FileL) (cap:Nat) (e v:ByteArray) (w:World) (hF:FilesIn w (.slice A F.length cap) F) (hl:F.length <= 40) (hs:v.size <= 10000) (hEU:EnvU w) (hEC:EnvC w) (hES:EnvS w) (ha:attrB e.data.toList [115,114,99] = true) :
  Calls Tryz.prog 88 #[.agg #[.bool r,.bool s,.bool q],.slice A F.length cap,.string e,.agg #[.string ⟨#[115,114,99]⟩,.string v]] w fun x w'=>x = .returned (valV (valN r s F [115,114,99] v.data.toList)) /\ Below w.heap.size w w':=by
 have HF:=hide hF;have HL:=hide hl;have HS:=hide hs;have HEU:=hide hEU;have HEC:=hide hEC;have HES:=hide hES;exact value_gen 123 _ r s q A F cap e ⟨#[115,114,99]⟩ v w (by decide) ha (judF_src _) (enters_of Tryz.func123 (by kernel_rfl) rfl) (fun w2 hw2=>gSrc_any r s q A F cap v w2 (HF.out.kept hw2) HL.out HS.out (HEU.out.kept hw2) (HES.out.kept hw2))
theorem value_style (r s q:Bool) (A:Option Addr) (F:List FileL) (cap:Nat) (e v:ByteArray) (w:World) (hF:FilesIn w (.slice A F.length cap) F) (hl:F.length <= 40) (hs:v.size <= 10000) (hEU:EnvU w) (hEC:EnvC w) (hES:EnvS w) (ha:attrB e.data.toList [115,116,121,108,101] = true) :
  Calls Tryz.prog 88 #[.agg #[.bool r,.bool s,.bool q],.slice A F.length cap,.string e,.agg #[.string ⟨#[115,116,121,108,101]⟩,.string v]] w fun x w'=>x = .returned (valV (valN r s F [115,116,121,108,101] v.data.toList)) /\ Below w.heap.size w w':=by
 have HF:=hide hF;have HL:=hide hl;have HS:=hide hs;have HEU:=hide hEU;have HEC:=hide hEC;have HES:=hide hES;exact value_gen 124 _ r s q A F cap e ⟨#[115,116,121,108,101]⟩ v w (by decide) ha (judF_style _) (enters_of Tryz.func124 (by kernel_rfl) rfl) (fun w2 hw2=>gStyle_any r s q A F cap v w2 HS.out (HEC.out.kept hw2))
theorem value_width (r s q:Bool) (A:Option Addr) (F:List FileL) (cap:Nat) (e v:ByteArray) (w:World) (hF:FilesIn w (.slice A F.length cap) F) (hl:F.length <= 40) (hs:v.size <= 10000) (hEU:EnvU w) (hEC:EnvC w) (hES:EnvS w) (ha:attrB e.data.toList [119,105,100,116,104] = true) :
  Calls Tryz.prog 88 #[.agg #[.bool r,.bool s,.bool q],.slice A F.length cap,.string e,.agg #[.string ⟨#[119,105,100,116,104]⟩,.string v]] w fun x w'=>x = .returned (valV (valN r s F [119,105,100,116,104] v.data.toList)) /\ Below w.heap.size w w':=by
 have HF:=hide hF;have HL:=hide hl;have HS:=hide hs;have HEU:=hide hEU;have HEC:=hide hEC;have HES:=hide hES;exact value_gen 125 _ r s q A F cap e ⟨#[119,105,100,116,104]⟩ v w (by decide) ha (judF_width _) (enters_of Tryz.func125 (by kernel_rfl) rfl) (fun w2 hw2=>gNum_any r s q A F cap v w2 (Nat.le_trans HS.out (by decide)))
theorem value_height (r s q:Bool) (A:Option Addr) (F:List FileL) (cap:Nat) (e v:ByteArray) (w:World) (hF:FilesIn w (.slice A F.length cap) F) (hl:F.length <= 40) (hs:v.size <= 10000) (hEU:EnvU w) (hEC:EnvC w) (hES:EnvS w) (ha:attrB e.data.toList [104,101,105,103,104,116] = true) :
  Calls Tryz.prog 88 #[.agg #[.bool r,.bool s,.bool q],.slice A F.length cap,.string e,.agg #[.string ⟨#[104,101,105,103,104,116]⟩,.string v]] w fun x w'=>x = .returned (valV (valN r s F [104,101,105,103,104,116] v.data.toList)) /\ Below w.heap.size w w':=by
 have HF:=hide hF;have HL:=hide hl;have HS:=hide hs;have HEU:=hide hEU;have HEC:=hide hEC;have HES:=hide hES;exact value_gen 125 _ r s q A F cap e ⟨#[104,101,105,103,104,116]⟩ v w (by decide) ha (judF_height _) (enters_of Tryz.func125 (by kernel_rfl) rfl) (fun w2 hw2=>gNum_any r s q A F cap v w2 (Nat.le_trans HS.out (by decide)))
theorem value_start (r s q:Bool) (A:Option Addr) (F:List FileL) (cap:Nat) (e v:ByteArray) (w:World) (hF:FilesIn w (.slice A F.length cap) F) (hl:F.length <= 40) (hs:v.size <= 10000) (hEU:EnvU w) (hEC:EnvC w) (hES:EnvS w) (ha:attrB e.data.toList [115,116,97,114,116] = true) :
  Calls Tryz.prog 88 #[.agg #[.bool r,.bool s,.bool q],.slice A F.length cap,.string e,.agg #[.string ⟨#[115,116,97,114,116]⟩,.string v]] w fun x w'=>x = .returned (valV (valN r s F [115,116,97,114,116] v.data.toList)) /\ Below w.heap.size w w':=by
 have HF:=hide hF;have HL:=hide hl;have HS:=hide hs;have HEU:=hide hEU;have HEC:=hide hEC;have HES:=hide hES;exact value_gen 125 _ r s q A F cap e ⟨#[115,116,97,114,116]⟩ v w (by decide) ha (judF_start _) (enters_of Tryz.func125 (by kernel_rfl) rfl) (fun w2 hw2=>gNum_any r s q A F cap v w2 (Nat.le_trans HS.out (by decide)))
theorem value_value (r s q:Bool) (A:Option Addr) (F:List FileL) (cap:Nat) (e v:ByteArray) (w:World) (hF:FilesIn w (.slice A F.length cap) F) (hl:F.length <= 40) (hs:v.size <= 10000) (hEU:EnvU w) (hEC:EnvC w) (hES:EnvS w) (ha:attrB e.data.toList [118,97,108,117,101] = true) :
  Calls Tryz.prog 88 #[.agg #[.bool r,.bool s,.bool q],.slice A F.length cap,.string e,.agg #[.string ⟨#[118,97,108,117,101]⟩,.string v]] w fun x w'=>x = .returned (valV (valN r s F [118,97,108,117,101] v.data.toList)) /\ Below w.heap.size w w':=by
 have HF:=hide hF;have HL:=hide hl;have HS:=hide hs;have HEU:=hide hEU;have HEC:=hide hEC;have HES:=hide hES;exact value_gen 125 _ r s q A F cap e ⟨#[118,97,108,117,101]⟩ v w (by decide) ha (judF_value _) (enters_of Tryz.func125 (by kernel_rfl) rfl) (fun w2 hw2=>gNum_any r s q A F cap v w2 (Nat.le_trans HS.out (by decide)))
theorem value_dir (r s q:Bool) (A:Option Addr) (F:List FileL) (cap:Nat) (e v:ByteArray) (w:World) (hF:FilesIn w (.slice A F.length cap) F) (hl:F.length <= 40) (hs:v.size <= 10000) (hEU:EnvU w) (hEC:EnvC w) (hES:EnvS w) (ha:attrB e.data.toList [100,105,114] = true) :
  Calls Tryz.prog 88 #[.agg #[.bool r,.bool s,.bool q],.slice A F.length cap,.string e,.agg #[.string ⟨#[100,105,114]⟩,.string v]] w fun x w'=>x = .returned (valV (valN r s F [100,105,114] v.data.toList)) /\ Below w.heap.size w w':=by
 have HF:=hide hF;have HL:=hide hl;have HS:=hide hs;have HEU:=hide hEU;have HEC:=hide hEC;have HES:=hide hES;exact value_gen 126 _ r s q A F cap e ⟨#[100,105,114]⟩ v w (by decide) ha (judF_dir _) (enters_of Tryz.func126 (by kernel_rfl) rfl) (fun w2 hw2=>gDir_any r s q A F cap v w2)
theorem value_lang (r s q:Bool) (A:Option Addr) (F:List FileL) (cap:Nat) (e v:ByteArray) (w:World) (hF:FilesIn w (.slice A F.length cap) F) (hl:F.length <= 40) (hs:v.size <= 10000) (hEU:EnvU w) (hEC:EnvC w) (hES:EnvS w) (ha:attrB e.data.toList [108,97,110,103] = true) :
  Calls Tryz.prog 88 #[.agg #[.bool r,.bool s,.bool q],.slice A F.length cap,.string e,.agg #[.string ⟨#[108,97,110,103]⟩,.string v]] w fun x w'=>x = .returned (valV (valN r s F [108,97,110,103] v.data.toList)) /\ Below w.heap.size w w':=by
 have HF:=hide hF;have HL:=hide hl;have HS:=hide hs;have HEU:=hide hEU;have HEC:=hide hEC;have HES:=hide hES;exact value_gen 127 _ r s q A F cap e ⟨#[108,97,110,103]⟩ v w (by decide) ha (judF_lang _) (enters_of Tryz.func127 (by kernel_rfl) rfl) (fun w2 hw2=>gLang_any r s q A F cap v w2 (Nat.le_trans HS.out (by decide)))
theorem value_title (r s q:Bool) (A:Option Addr) (F:List FileL) (cap:Nat) (e v:ByteArray) (w:World) (hF:FilesIn w (.slice A F.length cap) F) (hl:F.length <= 40) (hs:v.size <= 10000) (hEU:EnvU w) (hEC:EnvC w) (hES:EnvS w) (ha:attrB e.data.toList [116,105,116,108,101] = true) :
  Calls Tryz.prog 88 #[.agg #[.bool r,.bool s,.bool q],.slice A F.length cap,.string e,.agg #[.string ⟨#[116,105,116,108,101]⟩,.string v]] w fun x w'=>x = .returned (valV (valN r s F [116,105,116,108,101] v.data.toList)) /\ Below w.heap.size w w':=by
 have HF:=hide hF;have HL:=hide hl;have HS:=hide hs;have HEU:=hide hEU;have HEC:=hide hEC;have HES:=hide hES;exact value_gen 128 _ r s q A F cap e ⟨#[116,105,116,108,101]⟩ v w (by decide) ha (judF_title _) (enters_of Tryz.func128 (by kernel_rfl) rfl) (fun w2 hw2=>gWords_any r s q A F cap v w2)
theorem value_alt (r s q:Bool) (A:Option Addr) (F:List FileL) (cap:Nat) (e v:ByteArray) (w:World) (hF:FilesIn w (.slice A F.length cap) F) (hl:F.length <= 40) (hs:v.size <= 10000) (hEU:EnvU w) (hEC:EnvC w) (hES:EnvS w) (ha:attrB e.data.toList [97,108,116] = true) :
  Calls Tryz.prog 88 #[.agg #[.bool r,.bool s,.bool q],.slice A F.length cap,.string e,.agg #[.string ⟨#[97,108,116]⟩,.string v]] w fun x w'=>x = .returned (valV (valN r s F [97,108,116] v.data.toList)) /\ Below w.heap.size w w':=by
 have HF:=hide hF;have HL:=hide hl;have HS:=hide hs;have HEU:=hide hEU;have HEC:=hide hEC;have HES:=hide hES;exact value_gen 128 _ r s q A F cap e ⟨#[97,108,116]⟩ v w (by decide) ha (judF_alt _) (enters_of Tryz.func128 (by kernel_rfl) rfl) (fun w2 hw2=>gWords_any r s q A F cap v w2)
theorem value_off (r s q:Bool) (A:Option Addr) (F:List FileL) (cap:Nat) (e n v:ByteArray) (w:World) (ha:attrB e.data.toList n.data.toList = false) :
  Calls Tryz.prog 88 #[.agg #[.bool r,.bool s,.bool q],.slice A F.length cap,.string e,.agg #[.string n,.string v]] w fun x w'=>x = .returned (valV none) /\ Below w.heap.size w w':=by
 have HA:=hide ha;clear ha;go_enter Tryz.func88,Tryz.ntmps88;go_wp2_with fail;refine (attr_any e n _).mono ?_;rintro x w1 ⟨rfl,rfl⟩;rw [HA.out];go_wp2_with fail;go_ret2;exact ⟨rfl,((Below.refl _ _).alloc (Nat.le_refl _) _).alloc (by simp) _⟩
theorem value_any (r s q:Bool) (A:Option Addr) (F:List FileL) (cap:Nat) (e n v:ByteArray) (w:World) (hF:FilesIn w (.slice A F.length cap) F) (hl:F.length <= 40) (hs:v.size <= 10000) (hEU:EnvU w) (hEC:EnvC w) (hES:EnvS w) :
  Calls Tryz.prog 88 #[.agg #[.bool r,.bool s,.bool q],.slice A F.length cap,.string e,.agg #[.string n,.string v]] w fun x w'=>x = .returned (valV (valL r s F e.data.toList n.data.toList v.data.toList)) /\ Below w.heap.size w w':=by
 unfold valL;cases ha:attrB e.data.toList n.data.toList with
 | false =>
  rw [if_neg (by decide)];exact value_off r s q A F cap e n v w ha
 | true =>
  rw [if_pos rfl];cases hk:attrsL.contains n.data.toList with
  | false=>rw [attrB_none _ _ hk] at ha;cases ha
  | true =>
   rcases attrsL_cases _ hk with h | h | h | h | h | h | h | h | h | h | h
   ·obtain rfl:=ext_lit h;exact value_title r s q A F cap e v w hF hl hs hEU hEC hES ha
   ·obtain rfl:=ext_lit h;exact value_dir r s q A F cap e v w hF hl hs hEU hEC hES ha
   ·obtain rfl:=ext_lit h;exact value_lang r s q A F cap e v w hF hl hs hEU hEC hES ha
   ·obtain rfl:=ext_lit h;exact value_style r s q A F cap e v w hF hl hs hEU hEC hES ha
   ·obtain rfl:=ext_lit h;exact value_href r s q A F cap e v w hF hl hs hEU hEC hES ha
   ·obtain rfl:=ext_lit h;exact value_src r s q A F cap e v w hF hl hs hEU hEC hES ha
   ·obtain rfl:=ext_lit h;exact value_alt r s q A F cap e v w hF hl hs hEU hEC hES ha
   ·obtain rfl:=ext_lit h;exact value_width r s q A F cap e v w hF hl hs hEU hEC hES ha
   ·obtain rfl:=ext_lit h;exact value_height r s q A F cap e v w hF hl hs hEU hEC hES ha
   ·obtain rfl:=ext_lit h;exact value_start r s q A F cap e v w hF hl hs hEU hEC hES ha
   ·obtain rfl:=ext_lit h;exact value_value r s q A F cap e v w hF hl hs hEU hEC hES ha
def PBox (w:World) (b:Nat) (r s q:Bool):Prop :=
  w.cell? ⟨b,0,none⟩ = some (.bool r) /\ w.cell? ⟨b,1,none⟩ = some (.bool s) /\ w.cell? ⟨b,2,none⟩ = some (.bool q)
theorem PBox.new (w:World) (r s q:Bool) (t:TypeId):PBox (w.alloc (.cells #[.bool r,.bool s,.bool q] t)) w.heap.size r s q:=by
 refine ⟨?_,?_,?_⟩ <;> (rw [World.cell?_alloc_at _ _ _ _ rfl];rfl)
theorem PBox.kept {w w':World} {b:Nat} {r s q:Bool} (h:PBox w b r s q) (hb:Below w.heap.size w w'):PBox w' b r s q:=by
 obtain ⟨h0,h1,h2⟩:=h;exact ⟨(hb.cell (World.block_lt_of_cell? _ _ h0)).trans h0,(hb.cell (World.block_lt_of_cell? _ _ h1)).trans h1,(hb.cell (World.block_lt_of_cell? _ _ h2)).trans h2⟩
def ABox (w:World) (b:Nat) (n v:ByteArray):Prop:=w.cell? ⟨b,0,none⟩ = some (.string n) /\ w.cell? ⟨b,1,none⟩ = some (.string v)
theorem ABox.new (w:World) (n v:ByteArray) (t:TypeId):ABox (w.alloc (.cells #[.string n,.string v] t)) w.heap.size n v:=by
 refine ⟨?_,?_⟩ <;> (rw [World.cell?_alloc_at _ _ _ _ rfl];rfl)
theorem ABox.kept {w w':World} {b:Nat} {n v:ByteArray} (h:ABox w b n v) (hb:Below w.heap.size w w'):ABox w' b n v:=by
 obtain ⟨h0,h1⟩:=h;exact ⟨(hb.cell (World.block_lt_of_cell? _ _ h0)).trans h0,(hb.cell (World.block_lt_of_cell? _ _ h1)).trans h1⟩
theorem blocked_any (r s q:Bool) (e n v:ByteArray) (w:World) (hs:v.size <= 10000) (hE:EnvU w) :
  Calls Tryz.prog 46 #[.agg #[.bool r,.bool s,.bool q],.string e,.agg #[.string n,.string v]] w fun x w'=>x = .returned (.bool (blockB r e.data.toList n.data.toList v.data.toList)) /\ Below w.heap.size w w':=by
 have HS:=hide hs;have HE:=hide hE;have HEND:Hid (Below w.heap.size w ((w.alloc (.cells #[.bool r,.bool s,.bool q] 23)).alloc (.cells #[.string n,.string v] 47))):=hide (((Below.refl _ _).alloc (Nat.le_refl _) _).alloc (by rw [World.size_alloc];exact Nat.le_succ _) _);clear hs hE;cases h1:(e.data.toList == [105,109,103]) with
 | false =>
  have t1:(e.toList == [105,109,103]) = false:=by rw [bytes_list];exact h1
  have t2:(e.toList != [105,109,103]) = true:=by rw [bne,t1];rfl
  have HR:Hid (blockB r e.data.toList n.data.toList v.data.toList = false):=hide (if_neg (fun h=>by rw [h.1] at h1;cases h1));clear h1;go_enter Tryz.func46,Tryz.ntmps46;go_wp2_with fail;go_ret;exact ⟨by rw [HR.out];rfl,HEND.out⟩
 | true =>
  have t1:(e.toList == [105,109,103]) = true:=by rw [bytes_list];exact h1
  have t2:(e.toList != [105,109,103]) = false:=by rw [bne,t1];rfl
  cases h2:(n.data.toList == [115,114,99]) with
  | false =>
   have t3:(n.toList == [115,114,99]) = false:=by rw [bytes_list];exact h2
   have t4:(n.toList != [115,114,99]) = true:=by rw [bne,t3];rfl
   have HR:Hid (blockB r e.data.toList n.data.toList v.data.toList = false):=hide (if_neg (fun h=>by rw [h.2] at h2;cases h2));clear h1 h2;go_enter Tryz.func46,Tryz.ntmps46;go_wp2_with fail;go_ret;exact ⟨by rw [HR.out];rfl,HEND.out⟩
  | true =>
   have t3:(n.toList == [115,114,99]) = true:=by rw [bytes_list];exact h2
   have t4:(n.toList != [115,114,99]) = false:=by rw [bne,t3];rfl
   have HR0:blockB r e.data.toList n.data.toList v.data.toList = loadB r (lkClean v.data.toList):=if_pos ⟨eq_of_beq h1,eq_of_beq h2⟩;clear h1 h2 HEND;obtain ⟨W,hW⟩:∃ W,((w.alloc (.cells #[.bool r,.bool s,.bool q] 23)).alloc (.cells #[.string n,.string v] 47)) = W:=⟨_,rfl⟩
   have HP:Hid (PBox W w.heap.size r s q):=hide (by rw [<- hW];exact (PBox.new w r s q _).kept (alloc_below _ _))
   have HA:Hid (ABox W (w.heap.size + 1) n v):=hide (by
    rw [<- hW];have:=ABox.new (w.alloc (.cells #[.bool r,.bool s,.bool q] 23)) n v 47;rw [World.size_alloc] at this;exact this)
   have HB:Hid (Below w.heap.size w W):=hide (by
    rw [<- hW];exact ((Below.refl _ _).alloc (Nat.le_refl _) _).alloc (by rw [World.size_alloc];exact Nat.le_succ _) _)
   have HKC:=hide (fun w2 (hw2:Below w.heap.size w w2)=>linkKind_any v w2 (Nat.le_trans HS.out (by decide)) (HE.out.kept hw2));have HCL:=hide (fun w2 (hw2:Below w.heap.size w w2)=>linkClean_any v w2 (Nat.le_trans HS.out (by decide)) (HE.out.kept hw2));obtain ⟨X,hX⟩:∃ X,str (lkClean v.data.toList) = X:=⟨_,rfl⟩
   have hXl:lkClean v.data.toList = X.data.toList:=by rw [<- hX,str_toList]
   have hXs:X.size <= 10000:=by
    rw [<- toList_length,<- hXl];have:=clean_length v.data.toList;rw [toList_length] at this;have:=HS.out;omega
   rw [hX] at HCL;rw [hXl] at HKC HR0;clear hX hXl;rcases kind_cases X.data.toList with h | h | h | h | h | h
   ·have HR:Hid (blockB r e.data.toList n.data.toList v.data.toList = (!X.data.toList.isEmpty)):=hide (by rw [HR0];unfold loadB;rw [h];rfl);rw [h] at HKC
    by_cases hz:X.size = 0
    ·have e1:X.toList.isEmpty = true:=(size0 hz).2;have e2:(!X.toList.isEmpty) = false:=by rw [e1];rfl
     clear hz;have HR2:Hid ((!X.data.toList.isEmpty) = false):=hide (by rw [<- bytes_list,e1];rfl);rw [HR2.out] at HR;clear h HR0;obtain ⟨c0,c1,c2⟩:=HP.out;obtain ⟨d0,d1⟩:=HA.out;go_enter Tryz.func46,Tryz.ntmps46;go_wp2_with fail;clear hW;refine (HKC.out _ HB.out).mono ?_;rintro x w2 ⟨rfl,hb2⟩;clear c0 c1 c2 d0 d1;have HP2:=hide (HP.out.kept hb2);have HA2:=hide (HA.out.kept hb2);obtain ⟨c0,c1,c2⟩:=HP2.out;obtain ⟨d0,d1⟩:=HA2.out;have HB2:=hide (HB.out.trans (hb2.mono HB.out.size));clear hb2;go_wp2_with fail;refine (HCL.out _ HB2.out).mono ?_;rintro x w3 ⟨rfl,hb3⟩;clear c0 c1 c2 d0 d1;have HP3:=hide (HP2.out.kept hb3);have HA3:=hide (HA2.out.kept hb3);obtain ⟨c0,c1,c2⟩:=HP3.out;obtain ⟨d0,d1⟩:=HA3.out;have HB3:=hide (HB2.out.trans (hb3.mono HB2.out.size));clear hb3;go_wp2_with fail;go_ret;exact ⟨by rw [HR.out];rfl,HB3.out⟩
    ·have e1:X.toList.isEmpty = false:=(sizeP hz).2;have e2:(!X.toList.isEmpty) = true:=by rw [e1];rfl
     clear hz;have HR2:Hid ((!X.data.toList.isEmpty) = true):=hide (by rw [<- bytes_list,e1];rfl);rw [HR2.out] at HR;clear h HR0;obtain ⟨c0,c1,c2⟩:=HP.out;obtain ⟨d0,d1⟩:=HA.out;go_enter Tryz.func46,Tryz.ntmps46;go_wp2_with fail;clear hW;refine (HKC.out _ HB.out).mono ?_;rintro x w2 ⟨rfl,hb2⟩;clear c0 c1 c2 d0 d1;have HP2:=hide (HP.out.kept hb2);have HA2:=hide (HA.out.kept hb2);obtain ⟨c0,c1,c2⟩:=HP2.out;obtain ⟨d0,d1⟩:=HA2.out;have HB2:=hide (HB.out.trans (hb2.mono HB.out.size));clear hb2;go_wp2_with fail;refine (HCL.out _ HB2.out).mono ?_;rintro x w3 ⟨rfl,hb3⟩;clear c0 c1 c2 d0 d1;have HP3:=hide (HP2.out.kept hb3);have HA3:=hide (HA2.out.kept hb3);obtain ⟨c0,c1,c2⟩:=HP3.out;obtain ⟨d0,d1⟩:=HA3.out;have HB3:=hide (HB2.out.trans (hb3.mono HB2.out.size));clear hb3;go_wp2_with fail;go_ret;exact ⟨by rw [HR.out];rfl,HB3.out⟩
   ·have HR:Hid (blockB r e.data.toList n.data.toList v.data.toList = (true)):=hide (by rw [HR0];unfold loadB;rw [h];rfl);rw [h] at HKC;clear h HR0;obtain ⟨c0,c1,c2⟩:=HP.out;obtain ⟨d0,d1⟩:=HA.out;go_enter Tryz.func46,Tryz.ntmps46;go_wp2_with fail;clear hW;refine (HKC.out _ HB.out).mono ?_;rintro x w2 ⟨rfl,hb2⟩;clear c0 c1 c2 d0 d1;have HP2:=hide (HP.out.kept hb2);have HA2:=hide (HA.out.kept hb2);obtain ⟨c0,c1,c2⟩:=HP2.out;obtain ⟨d0,d1⟩:=HA2.out;have HB2:=hide (HB.out.trans (hb2.mono HB.out.size));clear hb2;go_wp2_with fail;go_ret;exact ⟨by rw [HR.out];rfl,HB2.out⟩
   ·have HR:Hid (blockB r e.data.toList n.data.toList v.data.toList = (!r)):=hide (by rw [HR0];unfold loadB;rw [h];rfl);rw [h] at HKC;clear h HR0;obtain ⟨c0,c1,c2⟩:=HP.out;obtain ⟨d0,d1⟩:=HA.out;go_enter Tryz.func46,Tryz.ntmps46;go_wp2_with fail;clear hW;refine (HKC.out _ HB.out).mono ?_;rintro x w2 ⟨rfl,hb2⟩;clear c0 c1 c2 d0 d1;have HP2:=hide (HP.out.kept hb2);have HA2:=hide (HA.out.kept hb2);obtain ⟨c0,c1,c2⟩:=HP2.out;obtain ⟨d0,d1⟩:=HA2.out;have HB2:=hide (HB.out.trans (hb2.mono HB.out.size));clear hb2;go_wp2_with fail;go_ret;exact ⟨by rw [HR.out];rfl,HB2.out⟩
   iterate 3
    ·have HR:Hid (blockB r e.data.toList n.data.toList v.data.toList = (false)):=hide (by rw [HR0];unfold loadB;rw [h];rfl);rw [h] at HKC;clear h HR0;obtain ⟨c0,c1,c2⟩:=HP.out;obtain ⟨d0,d1⟩:=HA.out;go_enter Tryz.func46,Tryz.ntmps46;go_wp2_with fail;clear hW;refine (HKC.out _ HB.out).mono ?_;rintro x w2 ⟨rfl,hb2⟩;clear c0 c1 c2 d0 d1;have HP2:=hide (HP.out.kept hb2);have HA2:=hide (HA.out.kept hb2);obtain ⟨c0,c1,c2⟩:=HP2.out;obtain ⟨d0,d1⟩:=HA2.out;have HB2:=hide (HB.out.trans (hb2.mono HB.out.size));clear hb2;go_wp2_with fail;go_ret;exact ⟨by rw [HR.out];rfl,HB2.out⟩
def blkA (rem:Bool) (nm:List UInt8) (a:AtL):Bool:=blockB rem nm a.1 a.2
def firstV:Option (List UInt8) -> Value
  | some x=>.tuple #[.string (str x),.bool true]
  | none=>.tuple #[.string ⟨#[]⟩,.bool false]
theorem first_any (v:Value) (l:List AtL) (n:ByteArray) (w:World) (h:AttrsIn w v l) (hl:l.length <= 1000000) :
  Calls Tryz.prog 86 #[v,.string n] w fun e w'=>e = .returned (firstV (firstA l n.data.toList)) /\ Below w.heap.size w w':=by
 obtain ⟨A,cap,rfl⟩:=h.form;obtain ⟨G,hG⟩:∃ G,G = firstA l n.data.toList:=⟨_,rfl⟩
 rw [<- hG];have H:=hide h;have HG0:Hid (firstA (l.drop 0) n.data.toList = G):=hide hG.symm;clear h hG;go_enter Tryz.func86,Tryz.ntmps86;go_wp2_with fail;go_loopw [10] (fun iv wr=>∃ k:Nat,k <= l.length /\ iv = .int .i64 k /\ Hid (Below w.heap.size w wr) /\ Hid (firstA (l.drop k) n.data.toList = G)) (fun iv _=>l.length - (intOf iv).toNat)
 case atStart=>exact ⟨0,Nat.zero_le _,rfl,hide (Below.refl _ _),HG0⟩
 case round =>
  clear HG0;obtain ⟨k,hk,rfl,HB,HG⟩:=hrel;have hk6:k <= 1000000:=by omega
  by_cases hlt:k < l.length
  ·obtain ⟨a,rfl,c0,c1⟩:=(H.out.kept HB.out).at k _ (List.getElem?_eq_getElem hlt);have hdr:l.drop k = l[k] :: l.drop (k + 1):=List.drop_eq_getElem_cons hlt;have HG2:=HG.out;rw [hdr] at HG2;obtain ⟨p,hp⟩:∃ p,p = l[k]'hlt:=⟨_,rfl⟩
   rw [<- hp] at c0 c1 HG2;obtain ⟨P1,hP1⟩:∃ P1,P1 = str p.1:=⟨_,rfl⟩
   obtain ⟨P2,hP2⟩:∃ P2,P2 = str p.2:=⟨_,rfl⟩
   rw [<- hP1] at c0;rw [<- hP2] at c1;have HLT:=hide hlt;have HBA:=hide (fun o=>HB.out.trans ((Below.refl wr.heap.size wr).alloc (Nat.le_refl _) o |>.mono HB.out.size));have HP2:=hide hP2
   by_cases he:p.1 = n.data.toList
   ·have t1:(P1.toList == n.toList) = true:=by rw [hP1,str_list,bytes_list,he];exact beq_self_eq_true _
    have HV:Hid (G = some p.2):=hide (by rw [<- HG2];unfold firstA;rw [if_pos he]);clear he hdr HG2 hp hP1 hP2;go_wp2_with fail;go_ret2;rw [HV.out,HP2.out];exact ⟨rfl,HBA.out _⟩
   ·have t1:(P1.toList == n.toList) = false:=by rw [hP1,str_list,bytes_list];exact beq_eq_false_iff_ne.2 he
    have HGN:Hid (firstA (l.drop (k + 1)) n.data.toList = G):=hide (by rw [<- HG2];conv=>rhs;unfold firstA;rw [if_neg he]);clear he hdr HG2 hp hP1 hP2;go_wp2_with fail;go_roundw
    case rel=>exact ⟨k + 1,HLT.out,by go_num,hide (HBA.out _),HGN⟩
    case measure=>simp [intOf];have:=HLT.out;omega
  ·have HV:Hid (G = none):=hide (by rw [<- HG.out,List.drop_eq_nil_of_le (by omega)];rfl);go_wp2_with fail;go_ret2;rw [HV.out];exact ⟨rfl,HB.out⟩
theorem indexPix_any (v:Value) (l:List AtL) (w:World) (h:AttrsIn w v l) (hl:l.length <= 1000000) (hcall:∀ w' (a:AtL),a ∈ l -> Below w.heap.size w w' -> Calls Tryz.prog 47 #[.agg #[.string (str a.1),.string (str a.2)]] w' fun e w''=>e = .returned (.bool ((pixA) a)) /\ Below w'.heap.size w' w'') :
  Calls Tryz.prog 63 #[v,.func (.func 47) #[] #[]] w fun e w'=>∃ i:Int,e = .returned (.int .i64 i) /\ decide (0 <= i) = l.any (pixA) /\ Below w.heap.size w w':=by
 obtain ⟨A,cap,rfl⟩:=h.form;have H:=hide h;have HCALL:=hide hcall;obtain ⟨G,hG⟩:∃ G,G = l.any (pixA):=⟨_,rfl⟩
 rw [<- hG];have HG0:Hid ((l.drop 0).any (pixA) = G):=hide hG.symm;clear h hcall hG;go_enter Tryz.func63,Tryz.ntmps63;go_wp2_with fail;go_loopw [8] (fun iv wr=>∃ k:Nat,k <= l.length /\ iv = .int .i64 k /\ Hid (Below w.heap.size w wr) /\ Hid ((l.drop k).any (pixA) = G)) (fun iv _=>l.length - (intOf iv).toNat)
 case atStart=>exact ⟨0,Nat.zero_le _,rfl,hide (Below.refl _ _),HG0⟩
 case round =>
  clear HG0;obtain ⟨k,hk,rfl,HB,HG⟩:=hrel;have hk6:k <= 1000000:=by omega
  by_cases hlt:k < l.length
  ·obtain ⟨a,rfl,c0,c1⟩:=(H.out.kept HB.out).at k _ (List.getElem?_eq_getElem hlt);have hdr:l.drop k = l[k] :: l.drop (k + 1):=List.drop_eq_getElem_cons hlt;have HG2:=HG.out;rw [hdr] at HG2;have HF0:=HCALL.out wr (l[k]'hlt) (List.getElem_mem hlt) HB.out;obtain ⟨p,hp⟩:∃ p,p = l[k]'hlt:=⟨_,rfl⟩
   rw [<- hp] at c0 c1 HG2 HF0;obtain ⟨P1,hP1⟩:∃ P1,P1 = str p.1:=⟨_,rfl⟩
   obtain ⟨P2,hP2⟩:∃ P2,P2 = str p.2:=⟨_,rfl⟩
   rw [<- hP1] at c0 HF0;rw [<- hP2] at c1 HF0;have HLT:=hide hlt;have HF:=hide HF0;rw [List.any_cons] at HG2;cases he:(pixA) p with
   | true =>
    rw [he] at HF HG2;have HV:Hid (G = true):=hide (by rw [<- HG2,Bool.true_or]);clear he hdr HG2 hp hP1 hP2 HF0;go_wp2_with fail;refine HF.out.mono ?_;rintro e w1 ⟨rfl,hb⟩;have HB2:=hide (HB.out.trans (hb.mono HB.out.size));clear hb;go_wp2_with fail;go_ret;exact ⟨k,rfl,by rw [HV.out];exact decide_eq_true (by omega),HB2.out⟩
   | false =>
    rw [he] at HF HG2;have HGN:Hid ((l.drop (k + 1)).any (pixA) = G):=hide (by rw [<- HG2,Bool.false_or]);clear he hdr HG2 hp hP1 hP2 HF0;go_wp2_with fail;refine HF.out.mono ?_;rintro e w1 ⟨rfl,hb⟩;have HB2:=hide (HB.out.trans (hb.mono HB.out.size));clear hb;go_wp2_with fail;go_roundw
    case rel=>exact ⟨k + 1,HLT.out,by go_num,HB2,HGN⟩
    case measure=>simp [intOf];have:=HLT.out;omega
  ·have HV:Hid (G = false):=hide (by
    rw [<- HG.out,List.drop_eq_nil_of_le (by omega)];rfl)
   go_wp2_with fail;go_ret;exact ⟨-1,rfl,by rw [HV.out];rfl,HB.out⟩
theorem containsPix_any (v:Value) (l:List AtL) (w:World) (h:AttrsIn w v l) (hl:l.length <= 1000000) (hcall:∀ w' (a:AtL),a ∈ l -> Below w.heap.size w w' -> Calls Tryz.prog 47 #[.agg #[.string (str a.1),.string (str a.2)]] w' fun e w''=>e = .returned (.bool ((pixA) a)) /\ Below w'.heap.size w' w'') :
  Calls Tryz.prog 44 #[v,.func (.func 47) #[] #[]] w fun e w'=>e = .returned (.bool (l.any (pixA))) /\ Below w.heap.size w w':=by
 have HI:=hide (indexPix_any v l w h hl hcall);obtain ⟨A,cap,rfl⟩:=h.form;clear h hcall;go_enter Tryz.func44,Tryz.ntmps44;go_wp2_with fail;refine HI.out.mono ?_;rintro e w1 ⟨i,rfl,hi,hb⟩;have HV:=hide hi;have HB:=hide hb;clear hi hb;go_wp2_with fail;go_ret;exact ⟨by first | rfl | (rw [HV.out];rfl),HB.out⟩
theorem indexBlk_any (b1 b2:Nat) (rem:Bool) (nm:List UInt8) (v:Value) (l:List AtL) (w:World) (h:AttrsIn w v l) (hl:l.length <= 1000000) (hcall:∀ w' (a:AtL),a ∈ l -> Below w.heap.size w w' -> Calls Tryz.prog 45 #[.agg #[.string (str a.1),.string (str a.2)],.pointer (some ⟨b1,0,none⟩),.pointer (some ⟨b2,0,none⟩)] w' fun e w''=>e = .returned (.bool ((blkA rem nm) a)) /\ Below w'.heap.size w' w'') :
  Calls Tryz.prog 63 #[v,.func (.func 45) #[] #[.pointer (some ⟨b1,0,none⟩),.pointer (some ⟨b2,0,none⟩)]] w fun e w'=>∃ i:Int,e = .returned (.int .i64 i) /\ decide (0 <= i) = l.any (blkA rem nm) /\ Below w.heap.size w w':=by
 obtain ⟨A,cap,rfl⟩:=h.form;have H:=hide h;have HCALL:=hide hcall;obtain ⟨G,hG⟩:∃ G,G = l.any (blkA rem nm):=⟨_,rfl⟩
 rw [<- hG];have HG0:Hid ((l.drop 0).any (blkA rem nm) = G):=hide hG.symm;clear h hcall hG;go_enter Tryz.func63,Tryz.ntmps63;go_wp2_with fail;go_loopw [8] (fun iv wr=>∃ k:Nat,k <= l.length /\ iv = .int .i64 k /\ Hid (Below w.heap.size w wr) /\ Hid ((l.drop k).any (blkA rem nm) = G)) (fun iv _=>l.length - (intOf iv).toNat)
 case atStart=>exact ⟨0,Nat.zero_le _,rfl,hide (Below.refl _ _),HG0⟩
 case round =>
  clear HG0;obtain ⟨k,hk,rfl,HB,HG⟩:=hrel;have hk6:k <= 1000000:=by omega
  by_cases hlt:k < l.length
  ·obtain ⟨a,rfl,c0,c1⟩:=(H.out.kept HB.out).at k _ (List.getElem?_eq_getElem hlt);have hdr:l.drop k = l[k] :: l.drop (k + 1):=List.drop_eq_getElem_cons hlt;have HG2:=HG.out;rw [hdr] at HG2;have HF0:=HCALL.out wr (l[k]'hlt) (List.getElem_mem hlt) HB.out;obtain ⟨p,hp⟩:∃ p,p = l[k]'hlt:=⟨_,rfl⟩
   rw [<- hp] at c0 c1 HG2 HF0;obtain ⟨P1,hP1⟩:∃ P1,P1 = str p.1:=⟨_,rfl⟩
   obtain ⟨P2,hP2⟩:∃ P2,P2 = str p.2:=⟨_,rfl⟩
   rw [<- hP1] at c0 HF0;rw [<- hP2] at c1 HF0;have HLT:=hide hlt;have HF:=hide HF0;rw [List.any_cons] at HG2;cases he:(blkA rem nm) p with
   | true =>
    rw [he] at HF HG2;have HV:Hid (G = true):=hide (by rw [<- HG2,Bool.true_or]);clear he hdr HG2 hp hP1 hP2 HF0;go_wp2_with fail;refine HF.out.mono ?_;rintro e w1 ⟨rfl,hb⟩;have HB2:=hide (HB.out.trans (hb.mono HB.out.size));clear hb;go_wp2_with fail;go_ret;exact ⟨k,rfl,by rw [HV.out];exact decide_eq_true (by omega),HB2.out⟩
   | false =>
    rw [he] at HF HG2;have HGN:Hid ((l.drop (k + 1)).any (blkA rem nm) = G):=hide (by rw [<- HG2,Bool.false_or]);clear he hdr HG2 hp hP1 hP2 HF0;go_wp2_with fail;refine HF.out.mono ?_;rintro e w1 ⟨rfl,hb⟩;have HB2:=hide (HB.out.trans (hb.mono HB.out.size));clear hb;go_wp2_with fail;go_roundw
    case rel=>exact ⟨k + 1,HLT.out,by go_num,HB2,HGN⟩
    case measure=>simp [intOf];have:=HLT.out;omega
  ·have HV:Hid (G = false):=hide (by
    rw [<- HG.out,List.drop_eq_nil_of_le (by omega)];rfl)
   go_wp2_with fail;go_ret;exact ⟨-1,rfl,by rw [HV.out];rfl,HB.out⟩
theorem containsBlk_any (b1 b2:Nat) (rem:Bool) (nm:List UInt8) (v:Value) (l:List AtL) (w:World) (h:AttrsIn w v l) (hl:l.length <= 1000000) (hcall:∀ w' (a:AtL),a ∈ l -> Below w.heap.size w w' -> Calls Tryz.prog 45 #[.agg #[.string (str a.1),.string (str a.2)],.pointer (some ⟨b1,0,none⟩),.pointer (some ⟨b2,0,none⟩)] w' fun e w''=>e = .returned (.bool ((blkA rem nm) a)) /\ Below w'.heap.size w' w'') :
  Calls Tryz.prog 44 #[v,.func (.func 45) #[] #[.pointer (some ⟨b1,0,none⟩),.pointer (some ⟨b2,0,none⟩)]] w fun e w'=>e = .returned (.bool (l.any (blkA rem nm))) /\ Below w.heap.size w w':=by
 have HI:=hide (indexBlk_any b1 b2 rem nm v l w h hl hcall);obtain ⟨A,cap,rfl⟩:=h.form;clear h hcall;go_enter Tryz.func44,Tryz.ntmps44;go_wp2_with fail;refine HI.out.mono ?_;rintro e w1 ⟨i,rfl,hi,hb⟩;have HV:=hide hi;have HB:=hide hb;clear hi hb;go_wp2_with fail;go_ret;exact ⟨by first | rfl | (rw [HV.out];rfl),HB.out⟩
def IterKept (w w':World):Prop:=∀ (b:Nat) (s:ByteArray) (p:Nat),w.heap[b]? = some (Obj.stringIter s p) -> w'.heap[b]? = some (Obj.stringIter s p)
theorem buf_not_iter {B:Nat} {v:Value} {l:List UInt8} {W0 w:World} (h:Buf B v l W0 w) {b:Nat} {s:ByteArray} {p:Nat} (hb:w.heap[b]? = some (Obj.stringIter s p)):v.ownBlock ≠ some b:=by
 rcases h.1.2 with ⟨rfl,_⟩ | ⟨g,cap,cur,rfl,_,hh,_⟩
 ·simp [Value.ownBlock]
 ·intro he;have e:g = b:=by simpa [Value.ownBlock] using he
  subst e;rw [hh] at hb;cases hb
theorem iter_own {B:Nat} {v:Value} {l:List UInt8} {W0 w w':World} (h:Buf B v l W0 w) (hg:w.grownBy w' v.ownBlock):IterKept w w':=fun b s p hb =>
 (hg.block b (Array.getElem?_eq_some_iff.1 hb).1 (fun e=>buf_not_iter h hb e.symm)).trans hb
theorem appendRune_any (B:Nat) (v:Value) (l:List UInt8) (W0 w:World) (hb:Buf B v l W0 w) (r:Int) (h0:0 <= r) (h1:r <= 1114111) (hl:l.length <= 70368744177664) :
  Calls Tryz.prog 84 #[v,.int .i32 r] w fun e w'=>∃ v',e = .returned v' /\ Buf B v' (l ++ runeL r) W0 w' /\ IterKept w w':=by
 refine (Tryz.utf8_AppendRune_plain B v l.length (cellsOf l) r (by omega) (by omega) w hb.1 (by omega) hb.2.2).mono ?_;rintro e w' ⟨v',rfl,ho,o,hg⟩;have hb':=hb.alloc o;refine ⟨v',rfl,hb'.grown (l':=l ++ runeL r) ?_ hg,fun b s p hx=>iter_own hb' hg b s p ?_⟩
 ·have e:Lib.runeCells r = cellsOf (runeL r):=(Lib.byteCells_encodeRune r).symm;have e2:(Lib.runeCells r).length = (runeL r).length:=by rw [e,cellsOf_length]
  rw [e2,e] at ho;rw [List.length_append,cellsOf,List.map_append];exact ho
 ·exact (Below.heap_alloc w o b (Array.getElem?_eq_some_iff.1 hx).1).trans hx
theorem Buf.iterAt {B:Nat} {v:Value} {l:List UInt8} {W0 w:World} (h:Buf B v l W0 w) {k:Nat} {s:ByteArray} {p:Nat} (hk:w.heap[k]? = some (Obj.stringIter s p)) (hB:B <= k) (p':Nat):Buf B v l W0 (w.iterAt k s p'):=by
 have hne:=buf_not_iter h hk;refine ⟨⟨h.1.1,?_⟩,Lib.below_iterAt h.2.1 hB s p',by rw [Lib.iterAt_size];exact h.2.2⟩;rcases h.1.2 with ⟨rfl,h0⟩ | ⟨g,cap,cur,rfl,h1,h2,h3⟩
 ·exact .inl ⟨rfl,h0⟩
 ·refine .inr ⟨g,cap,cur,rfl,h1,?_,h3⟩;rw [Lib.iterAt_other _ _ _ _ _ (fun e=>hne (by simp [Value.ownBlock,e]))];exact h2
theorem valid_any (s:ByteArray) (w:World) (hs:s.size <= 1048576) :
  Calls Tryz.prog 58 #[.string s] w fun e w'=>e = .returned (.string (str (validL s.data.toList))) /\ Below w.heap.size w w':=by
 go_enter Tryz.func58,Tryz.ntmps58;go_wp2_with (refine wpList_buf_make rfl _ _ rfl w.heap.size w (Below.refl _ _) (Nat.le_refl _) s.size s.size rfl rfl rfl (by omega) ?_;intro v0 w0 hb0);have hbz:=hb0.2.2;have hit:(w0.iter s 0).heap[w0.heap.size]? = some (Obj.stringIter s 0):=heap_alloc_new w0 _;go_loopw [3] (fun v wr=>∃ (pos:Nat) (acc:List UInt8),pos <= s.size /\ wr.heap[w0.heap.size]? = some (Obj.stringIter s pos) /\ Buf w.heap.size v acc w wr /\ acc.length <= 3 * pos /\ acc ++ validL (s.data.toList.drop pos) = validL s.data.toList) (fun _ wr=>s.size - wr.iterPos w0.heap.size)
 case atStart=>exact ⟨0,[],Nat.zero_le _,hit,hb0.alloc _,Nat.le_refl _,by simp⟩
 case round =>
  obtain ⟨pos,acc,hpos,hk,hb,hacc,hd⟩:=hrel;have HB:=hide hb;have HK:=hide hk;clear hb hk
  by_cases hlt:pos < s.size
  ·have hnx:=fun ty=>Lib.run_next_any_at (P:=Tryz.prog) wr w0.heap.size s pos ty HK.out hlt
   have hne:s.data.toList.drop pos ≠ []:=by rw [drop_cons s pos hlt];simp
   have hsp:=decL_spec _ hne;have hst:=vStep_pos' _ hne;have hR:=valid_round hd hne;rw [List.drop_drop] at hR;rw [decode_decL s pos hlt] at hnx;rw [List.length_drop,toList_length] at hst;generalize decL (s.data.toList.drop pos) = dl at hnx hsp;obtain ⟨r,n⟩:=dl;simp only at hsp hnx;rw [<- hsp.1,<- hsp.2.1] at hR;rw [<- hsp.1,<- hsp.2.1] at hst;have hr:=hsp.2.2;clear hsp;obtain ⟨hn1,hn2,hn3,hn4⟩:=hst;have HR:=hide hR;have HI:=hide (Lib.iterAt_heap wr w0.heap.size s pos (pos + n) HK.out);have HB1:=hide (HB.out.iterAt HK.out (by omega) (pos + n));clear hR hd hne;go_wp2_with fail;refine (appendRune_any w.heap.size u3 acc w _ HB1.out (r:Int) (by omega) (by omega) (by omega)).mono ?_;rintro e w1 ⟨v1,rfl,hb1,hi1⟩;have HB2:=hide hb1;have HI2:=hide (hi1 _ _ _ HI.out);clear hb1 hi1;go_wp2_with fail;go_roundw
   case rel=>exact ⟨pos + n,acc ++ _,by omega,HI2.out,HB2.out,by rw [List.length_append];omega,HR.out⟩
   case measure =>
    have e1:World.iterPos w1 w0.heap.size = pos + n:=by unfold World.iterPos;rw [HI2.out]
    have e2:World.iterPos wr w0.heap.size = pos:=by unfold World.iterPos;rw [HK.out]
    rw [e1,e2];omega
  ·have hnx:=fun ty=>Lib.run_next_end_at (P:=Tryz.prog) wr w0.heap.size s pos ty HK.out hlt
   have hcv:=HB.out.convert;go_wp2;go_ret;refine ⟨?_,HB.out.below⟩;rw [drop_nil s pos (by omega),validL_nil,List.append_nil] at hd;exact ret_str (by rw [hd])
def Tab (w:World):Prop:=∀ j:Nat,j < 32 -> w.cell? ⟨5,j,none⟩ = some (.int .i32 (winTab.getD j 0))
theorem Tab.lt {w:World} (h:Tab w):5 < w.heap.size:=by
 have:=h 0 (by omega);rcases Nat.lt_or_ge 5 w.heap.size with h1 | h1
 ·exact h1
 ·unfold World.cell? at this;rw [Array.getElem?_eq_none h1] at this;cases this
theorem Tab.below {B:Nat} {w w':World} (h:Tab w) (hb:Below B w w') (hB:5 < B):Tab w':=fun j hj=>by
 rw [<- h j hj];exact hb.cell (by exact hB)
theorem fromWindows_any (s:ByteArray) (w:World) (hs:s.size <= 1048576) (hT:Tab w) :
  Calls Tryz.prog 172 #[.string s] w fun e w'=>e = .returned (.string (str (winL s.data.toList))) /\ Below w.heap.size w w':=by
 have HT:=hide hT;have h0:=hT.lt;clear hT;go_enter Tryz.func172,Tryz.ntmps172;go_wp2_with (refine wpList_buf_make rfl _ _ rfl w.heap.size w (Below.refl _ _) (Nat.le_refl _) s.size s.size rfl rfl rfl (by omega) ?_;intro v0 w0 hb0);go_loopw [3,12] (fun v i wr=>∃ (k:Nat) (acc:List UInt8),k <= s.size /\ i = .int .i64 k /\ Buf w.heap.size v acc w wr /\ acc.length <= 3 * k /\ acc ++ winL (s.data.toList.drop k) = winL s.data.toList) (fun _ i _=>s.size - (intOf i).toNat)
 case atStart=>exact ⟨0,[],Nat.zero_le _,rfl,hb0,Nat.le_refl _,by simp⟩
 case round =>
  obtain ⟨k,acc,hk,rfl,hb,hacc,hd⟩:=hrel;have HB:=hide hb;clear hb
  by_cases hlt:k < s.size
  ·rw [drop_cons s k hlt,winL_cons,<- List.append_assoc] at hd;have HR:=hide hd;have hcase:=winR_case s[k];have hl3:=winR_length s[k];have hrg:=winR_range s[k];have hbl:=byte_lt s[k];generalize hc:s[k] = c at hd hcase hl3 hrg hbl;rw [hc] at HR;clear hd;rcases hcase with ⟨c1,e⟩ | ⟨c1,c2,e⟩ | ⟨c1,e⟩
   ·rw [e] at HR hl3;clear e;go_wp2_with fail;refine (appendRune_any w.heap.size u3 acc w wr HB.out c.toNat (by omega) (by omega) (by omega)).mono ?_;rintro e w1 ⟨v1,rfl,hb1,_⟩;have HB1:=hide hb1;clear hb1;go_wp2_with fail;go_roundw
    case rel=>exact ⟨k + 1,acc ++ _,by omega,by go_num,HB1.out,by rw [List.length_append];omega,HR.out⟩
    case measure=>simp [intOf];omega
   ·have hcell:=(HT.out.below HB.out.below h0) (c.toNat - 128) (by omega)
    rw [<- e] at hcell;have q1:((c.toNat:Int) - 128).toNat = c.toNat - 128:=by omega
    generalize winR c = rr at HR hl3 hrg hcell e;clear e;go_wp2_with fail;refine (appendRune_any w.heap.size u3 acc w wr HB.out rr (by omega) (by omega) (by omega)).mono ?_;rintro e w1 ⟨v1,rfl,hb1,_⟩;have HB1:=hide hb1;clear hb1;go_wp2_with fail;go_roundw
    case rel=>exact ⟨k + 1,acc ++ _,by omega,by go_num,HB1.out,by rw [List.length_append];omega,HR.out⟩
    case measure=>simp [intOf];omega
   ·rw [e] at HR hl3;clear e;go_wp2_with fail;refine (appendRune_any w.heap.size u3 acc w wr HB.out c.toNat (by omega) (by omega) (by omega)).mono ?_;rintro e w1 ⟨v1,rfl,hb1,_⟩;have HB1:=hide hb1;clear hb1;go_wp2_with fail;go_roundw
    case rel=>exact ⟨k + 1,acc ++ _,by omega,by go_num,HB1.out,by rw [List.length_append];omega,HR.out⟩
    case measure=>simp [intOf];omega
  ·have hcv:=HB.out.convert;go_wp2;go_ret;refine ⟨?_,HB.out.below⟩;rw [drop_nil s k (by omega)] at hd;rw [show winL [] = [] from rfl,List.append_nil] at hd;exact ret_str (by rw [hd])
theorem wash_two {w w1 w2:World} (h:Below w.heap.size w w1) (h2:Below w1.heap.size w1 w2):Below w.heap.size w w2:=h.trans (h2.mono h.size)
theorem beq_dec (x y:List UInt8):(x == y) = decide (x = y):=by
 by_cases h:x = y
 ·rw [decide_eq_true h,h];exact beq_self_eq_true _
 ·rw [decide_eq_false h];exact beq_eq_false_iff_ne.2 h
theorem pixF_any (a:AtL) (w:World) :
  Calls Tryz.prog 47 #[.agg #[.string (str a.1),.string (str a.2)]] w fun e w'=>e = .returned (.bool (pixA a)) /\ Below w.heap.size w w':=by
 obtain ⟨P1,hP1⟩:∃ P1,P1 = str a.1:=⟨_,rfl⟩
 obtain ⟨P2,hP2⟩:∃ P2,P2 = str a.2:=⟨_,rfl⟩
 have x1:(P1.toList == [119,105,100,116,104]) = decide (a.1 = wn_width):=by rw [hP1,str_list];exact beq_dec _ _
 have x2:(P1.toList == [104,101,105,103,104,116]) = decide (a.1 = wn_height):=by rw [hP1,str_list];exact beq_dec _ _
 have x3:(P2.toList == [48]) = decide (a.2 = [48]):=by rw [hP2,str_list];exact beq_dec _ _
 have x4:(P2.toList == [49]) = decide (a.2 = [49]):=by rw [hP2,str_list];exact beq_dec _ _
 rw [<- hP1,<- hP2];unfold pixA;have HB:=hide (fun o=>(Below.refl w.heap.size w).alloc (Nat.le_refl _) o);clear hP1 hP2;cases d1:decide (a.1 = wn_width) <;> cases d2:decide (a.1 = wn_height) <;> cases d3:decide (a.2 = [48]) <;> cases d4:decide (a.2 = [49])
 all_goals
  rw [d1] at x1;rw [d2] at x2;rw [d3] at x3;rw [d4] at x4;clear d1 d2 d3 d4;go_enter Tryz.func47,Tryz.ntmps47;go_wp2_with fail;go_ret;exact ⟨rfl,HB.out _⟩
theorem blkF_any (r s q:Bool) (b1 b2:Nat) (nm:ByteArray) (a:AtL) (w:World) (h1:w.heap[b1]? = some (.cells #[.bool r,.bool s,.bool q] 23 (0,0))) (c1 c2 c3:Value) (h2:w.heap[b2]? = some (.cells #[.string nm,c1,c2,c3] 36 (0,0))) (hl:a.2.length <= 10000) (hE:EnvU w) :
  Calls Tryz.prog 45 #[.agg #[.string (str a.1),.string (str a.2)],.pointer (some ⟨b1,0,none⟩),.pointer (some ⟨b2,0,none⟩)] w fun e w'=>e = .returned (.bool (blkA r nm.data.toList a)) /\ Below w.heap.size w w':=by
 obtain ⟨P1,hP1⟩:∃ P1,P1 = str a.1:=⟨_,rfl⟩
 obtain ⟨P2,hP2⟩:∃ P2,P2 = str a.2:=⟨_,rfl⟩
 obtain ⟨W,hW⟩:∃ W,W = w.alloc (.cells #[.string P1,.string P2] 47):=⟨_,rfl⟩
 have hb:Below w.heap.size w W:=by rw [hW];exact below_one w _
 have n1:∀ o i,(w.alloc o).cell? ⟨b1,i,none⟩ = w.cell? ⟨b1,i,none⟩:=fun o i=>World.cell?_of_block ((below_one w o).block b1 (lt_of_block h1))
 have n2:∀ o i,(w.alloc o).cell? ⟨b2,i,none⟩ = w.cell? ⟨b2,i,none⟩:=fun o i=>World.cell?_of_block ((below_one w o).block b2 (lt_of_block h2))
 have a0:∀ o,(w.alloc o).cell? ⟨b1,0,none⟩ = some (.bool r):=fun o=>by rw [n1,Lib.cell_of_heap h1];rfl
 have a1:∀ o,(w.alloc o).cell? ⟨b1,1,none⟩ = some (.bool s):=fun o=>by rw [n1,Lib.cell_of_heap h1];rfl
 have a2:∀ o,(w.alloc o).cell? ⟨b1,2,none⟩ = some (.bool q):=fun o=>by rw [n1,Lib.cell_of_heap h1];rfl
 have a3:∀ o,(w.alloc o).cell? ⟨b2,0,none⟩ = some (.string nm):=fun o=>by rw [n2,Lib.cell_of_heap h2];rfl
 have HB:=hide hb;have HC:=hide (blocked_any r s q nm P1 P2 W (by rw [hP2,str_size];exact hl) (hE.kept hb));have e1:P1.data.toList = a.1:=by rw [hP1,str_toList]
 have e2:P2.data.toList = a.2:=by rw [hP2,str_toList]
 rw [e1,e2] at HC;rw [<- hP1,<- hP2];unfold blkA;obtain ⟨G,hG⟩:∃ G,G = blockB r nm.data.toList a.1 a.2:=⟨_,rfl⟩
 rw [<- hG] at HC ⊢;rw [hW] at HC HB;clear hb hE h1 h2 hl hP1 hP2 e1 e2 hG hW n1 n2;go_enter Tryz.func45,Tryz.ntmps45;go_wp2_with fail;refine HC.out.mono ?_;rintro e w2 ⟨rfl,hb2⟩;have HB2:=hide (wash_two HB.out hb2);clear hb2;go_wp2_with fail;go_ret;exact ⟨rfl,HB2.out⟩
def fewA (l:List AtL):Prop:=l.length <= 1000000 /\ ∀ a ∈ l,a.2.length <= 1000
theorem isPixel_any (n t:ByteArray) (av kv:Value) (l:List AtL) (w:World) (h:AttrsIn w av l) (hl:l.length <= 1000000) (hk:∃ A m c,kv = .slice A m c) :
  Calls Tryz.prog 28 #[.agg #[.string n,av,.string t,kv]] w fun e w'=>e = .returned (.bool (pixB l)) /\ Below w.heap.size w w':=by
 obtain ⟨Aa,ca,rfl⟩:=h.form;obtain ⟨Ak,mk,ck,rfl⟩:=hk;obtain ⟨W,hW⟩:∃ W,W = w.alloc (.cells #[.string n,.slice Aa l.length ca,.string t,.slice Ak mk ck] 36):=⟨_,rfl⟩
 have hb:Below w.heap.size w W:=by rw [hW];exact below_one w _
 have HC:=hide (containsPix_any _ l W (h.kept hb) hl (fun w' a _ hb'=>pixF_any a w'));have HB:=hide hb;unfold pixB;obtain ⟨G,hG⟩:∃ G,G = l.any pixA:=⟨_,rfl⟩
 rw [<- hG] at HC ⊢;rw [hW] at HC HB;clear h hb hG hW hl;go_enter Tryz.func28,Tryz.ntmps28;go_wp2_with fail;refine HC.out.mono ?_;rintro e w2 ⟨rfl,hb2⟩;have HB2:=hide (wash_two HB.out hb2);clear hb2;go_wp2_with fail;go_ret;exact ⟨rfl,HB2.out⟩
theorem isBlocked_any (r s q:Bool) (n t:ByteArray) (av kv:Value) (l:List AtL) (w:World) (h:AttrsIn w av l) (hf:fewA l) (hk:∃ A m c,kv = .slice A m c) (hE:EnvU w) :
  Calls Tryz.prog 27 #[.agg #[.bool r,.bool s,.bool q],.agg #[.string n,av,.string t,kv]] w fun e w'=>e = .returned (.bool (blkB r n.data.toList l)) /\ Below w.heap.size w w':=by
 obtain ⟨Aa,ca,rfl⟩:=h.form;obtain ⟨Ak,mk,ck,rfl⟩:=hk;obtain ⟨W1,hW1⟩:∃ W1,W1 = w.alloc (.cells #[.bool r,.bool s,.bool q] 23):=⟨_,rfl⟩
 obtain ⟨W,hW⟩:∃ W,W = W1.alloc (.cells #[.string n,.slice Aa l.length ca,.string t,.slice Ak mk ck] 36):=⟨_,rfl⟩
 have hb1:Below w.heap.size w W1:=by rw [hW1];exact below_one w _
 have hb2:Below W1.heap.size W1 W:=by rw [hW];exact below_one W1 _
 have hz:W1.heap.size = w.heap.size + 1:=by rw [hW1,World.size_alloc]
 have hb:=wash_two hb1 hb2
 have k1:W.heap[w.heap.size]? = some (.cells #[.bool r,.bool s,.bool q] 23 (0,0)):=by
  rw [hb2.block _ (by omega),hW1];exact heap_alloc_new w _
 have k2:W.heap[w.heap.size + 1]? = some (.cells #[.string n,.slice Aa l.length ca,.string t,.slice Ak mk ck] 36 (0,0)):=by
  rw [<- hz,hW];exact heap_alloc_new W1 _
 have HC:=hide (containsBlk_any w.heap.size (w.heap.size + 1) r n.data.toList _ l W (h.kept hb) hf.1 (fun w' a ha hb'=>blkF_any r s q w.heap.size (w.heap.size + 1) n a w' ((hb'.block _ (lt_of_block k1)).trans k1) _ _ _ ((hb'.block _ (lt_of_block k2)).trans k2) (Nat.le_trans (hf.2 a ha) (by decide)) ((hE.kept hb).kept hb')));have HB:=hide hb;have e0:blkB r n.data.toList l = l.any (blkA r n.data.toList):=rfl;rw [e0];obtain ⟨G,hG⟩:∃ G,G = l.any (blkA r n.data.toList):=⟨_,rfl⟩
 rw [<- hG] at HC ⊢;rw [hW,hW1] at HC HB;clear h hb hG hW hW1 hf hE hb1 hb2 k1 k2 e0 hz;go_enter Tryz.func27,Tryz.ntmps27;go_wp2_with fail;refine HC.out.mono ?_;rintro e w2 ⟨rfl,hb2⟩;have HB2:=hide (wash_two HB.out hb2);clear hb2;go_wp2_with fail;go_ret;exact ⟨rfl,HB2.out⟩
theorem firstA_mem {l:List AtL} {n x:List UInt8} (h:firstA l n = some x):∃ a ∈ l,a.2 = x:=by
 induction l with
 | nil=>cases h
 | cons a r ih =>
  unfold firstA at h
  by_cases e:a.1 = n
  ·rw [if_pos e] at h;injection h with h;exact ⟨a,List.mem_cons_self ..,h⟩
  ·rw [if_neg e] at h;obtain ⟨b,hb,h2⟩:=ih h;exact ⟨b,List.mem_cons_of_mem _ hb,h2⟩
theorem wash_app (a b:ByteArray):(a ++ b).data.toList = a.data.toList ++ b.data.toList:=by
 simp
theorem sign_eq (x:List UInt8):((⟨#[91]⟩:ByteArray) ++ str (validL x)) ++ ⟨#[93]⟩ = str (91 :: (validL x ++ [93])):=by
 apply ext_list;rw [wash_app,wash_app,str_toList,str_toList];rfl
theorem sign_any (n t:ByteArray) (av kv:Value) (l:List AtL) (w:World) (h:AttrsIn w av l) (hf:fewA l) (hk:∃ A m c,kv = .slice A m c) :
  Calls Tryz.prog 87 #[.agg #[.string n,av,.string t,kv]] w fun e w'=>e = .returned (.string (str (signT l))) /\ Below w.heap.size w w':=by
 obtain ⟨Aa,ca,rfl⟩:=h.form;obtain ⟨Ak,mk,ck,rfl⟩:=hk;obtain ⟨W,hW⟩:∃ W,W = w.alloc (.cells #[.string n,.slice Aa l.length ca,.string t,.slice Ak mk ck] 36):=⟨_,rfl⟩
 have hb:Below w.heap.size w W:=by rw [hW];exact below_one w _
 have HF:=hide (first_any _ l ⟨#[97,108,116]⟩ W (h.kept hb) hf.1);have HB:=hide hb;rw [show (⟨#[97,108,116]⟩:ByteArray).data.toList = n_alt from rfl] at HF;rw [hW] at HF HB
 have go2:∀ (x:List UInt8),x.length <= 10000 -> Hid (∀ w',Calls Tryz.prog 58 #[.string (str x)] w' fun e w''=>e = .returned (.string (str (validL x))) /\ Below w'.heap.size w' w''):=fun x hx=>hide (fun w'=>by
  have:=valid_any (str x) w' (by rw [str_size];omega);rw [str_toList] at this;exact this)
 have HSZ:Hid (∀ V:List UInt8,∀ x,V = validL x -> x.length <= 10000 -> V.length <= 100000):=hide (fun V x e hx=>by rw [e];have:=validL_length x;omega);cases hq:firstA l n_alt with
 | none =>
  rw [hq] at HF;have HV:=go2 wn_picture (by decide);have HS:Hid (signT l = 91 :: (validL wn_picture ++ [93])):=hide (by unfold signT altL;rw [hq];rfl);have hss:(str (validL wn_picture)).size <= 100000:=by rw [str_size];exact HSZ.out _ _ rfl (by decide)
  obtain ⟨V,hV⟩:∃ V,V = str (validL wn_picture):=⟨_,rfl⟩
  have hE:=sign_eq wn_picture;rw [<- HS.out] at hE;rw [<- hV] at HV hss hE;have HE:=hide hE;have e0:str wn_picture = (⟨#[112,105,99,116,117,114,101]⟩:ByteArray):=by decide
  rw [e0] at HV;have q1:¬ (9223372036854775807 < 1 + V.size):=by omega
  have q2:¬ (9223372036854775807 < 1 + V.size + 1):=by omega
  clear h hb hW hq hf go2 hV hE e0 HS HSZ;go_enter Tryz.func87,Tryz.ntmps87;go_wp2_with fail;refine HF.out.mono ?_;rintro e w2 ⟨rfl,hb2⟩;have HB2:=hide (wash_two HB.out hb2);clear hb2;unfold firstV;go_wp2_with fail;refine (HV.out _).mono ?_;rintro e w3 ⟨rfl,hb3⟩;have HB3:=hide (wash_two HB2.out hb3);clear hb3;go_wp2_with fail;go_ret;exact ⟨by rw [<- HE.out];rfl,HB3.out⟩
 | some x =>
  rw [hq] at HF;obtain ⟨a,ha,hax⟩:=firstA_mem hq;have hxl:x.length <= 10000:=by rw [<- hax];exact Nat.le_trans (hf.2 a ha) (by decide)
  cases hx:x with
  | nil =>
   subst hx;have HV:=go2 wn_picture (by decide);have HS:Hid (signT l = 91 :: (validL wn_picture ++ [93])):=hide (by unfold signT altL;rw [hq];rfl);have hss:(str (validL wn_picture)).size <= 100000:=by rw [str_size];exact HSZ.out _ _ rfl (by decide)
   obtain ⟨V,hV⟩:∃ V,V = str (validL wn_picture):=⟨_,rfl⟩
   have hE:=sign_eq wn_picture;rw [<- HS.out] at hE;rw [<- hV] at HV hss hE;have HE:=hide hE;have e0:str wn_picture = (⟨#[112,105,99,116,117,114,101]⟩:ByteArray):=by decide
   rw [e0] at HV;have q1:¬ (9223372036854775807 < 1 + V.size):=by omega
   have q2:¬ (9223372036854775807 < 1 + V.size + 1):=by omega
   have e1:str [] = (⟨#[]⟩:ByteArray):=by decide
   unfold firstV at HF;simp only [e1] at HF;clear h hb hW hq hf go2 hV hE e0 HS HSZ ha hax hxl e1;go_enter Tryz.func87,Tryz.ntmps87;go_wp2_with fail;refine HF.out.mono ?_;rintro e w2 ⟨rfl,hb2⟩;have HB2:=hide (wash_two HB.out hb2);clear hb2;go_wp2_with fail;refine (HV.out _).mono ?_;rintro e w3 ⟨rfl,hb3⟩;have HB3:=hide (wash_two HB2.out hb3);clear hb3;go_wp2_with fail;go_ret;exact ⟨by rw [<- HE.out];rfl,HB3.out⟩
  | cons c r =>
   rw [hx] at HF hxl hq;obtain ⟨y,hy⟩:∃ y,y = c :: r:=⟨_,rfl⟩
   rw [<- hy] at HF hxl hq;have HV:=go2 y hxl;have HS:Hid (signT l = 91 :: (validL y ++ [93])):=hide (by unfold signT altL;rw [hq];simp only [Option.getD_some];rw [if_neg (by rw [hy];exact List.cons_ne_nil _ _)]);have hss:(str (validL y)).size <= 100000:=by rw [str_size];exact HSZ.out _ _ rfl hxl
   have t0:(str y).toList.isEmpty = false:=by rw [str_list,hy];rfl
   obtain ⟨V,hV⟩:∃ V,V = str (validL y):=⟨_,rfl⟩
   have hE:=sign_eq y;rw [<- HS.out] at hE;rw [<- hV] at HV hss hE;have HE:=hide hE;have q1:¬ (9223372036854775807 < 1 + V.size):=by omega
   have q2:¬ (9223372036854775807 < 1 + V.size + 1):=by omega
   unfold firstV at HF;simp only at HF;obtain ⟨Y,hY⟩:∃ Y,Y = str y:=⟨_,rfl⟩
   rw [<- hY] at HF HV t0;clear h hb hW hq hf go2 hV hE HS HSZ ha hax hxl hx hy hY;go_enter Tryz.func87,Tryz.ntmps87;go_wp2_with fail;refine HF.out.mono ?_;rintro e w2 ⟨rfl,hb2⟩;have HB2:=hide (wash_two HB.out hb2);clear hb2;go_wp2_with fail;refine (HV.out _).mono ?_;rintro e w3 ⟨rfl,hb3⟩;have HB3:=hide (wash_two HB2.out hb3);clear hb3;go_wp2_with fail;go_ret;exact ⟨by rw [<- HE.out];rfl,HB3.out⟩
def WshB (b:Nat) (r s q lk:Bool) (A:Option Addr) (n c:Nat) (w:World):Prop:=w.heap[b]? = some (.cells #[.bool r,.bool s,.bool q,.slice A n c,.bool lk] 51 (0,0))
theorem WshB.kept {b:Nat} {r s q lk:Bool} {A:Option Addr} {n c:Nat} {w w':World} (h:WshB b r s q lk A n c w) (hb:Below w.heap.size w w'):WshB b r s q lk A n c w':=(hb.block b (lt_of_block h)).trans h
structure ElI (n t:ByteArray) (av kv:Value) (acc:List AtL) (v:Value) (w wr:World):Prop where
  below:Below w.heap.size w wr
  b0:wr.heap[w.heap.size]? = some (.cells #[.string n,av,.string t,kv] 36 (0,0))
  b1:wr.heap[w.heap.size + 1]? = some (.cells #[.string ⟨#[]⟩,.slice none 0 0,.string ⟨#[]⟩,.slice none 0 0] 36 (0,0))
  b2:wr.heap[w.heap.size + 1 + 1]? = some (.cells #[.string n,v,.string ⟨#[]⟩,.slice none 0 0] 36 (0,0))
  row:wr.ownsRow (w.heap.size + 3) 47 2 v acc.length (atVals acc)
  size:w.heap.size + 3 <= wr.heap.size
theorem ElI.new (n t:ByteArray) (av kv:Value) (w:World):ElI n t av kv [] (.slice none 0 0) w
  (((w.alloc (.cells #[.string n,av,.string t,kv] 36)).alloc (.cells #[.string ⟨#[]⟩,.slice none 0 0,.string ⟨#[]⟩,.slice none 0 0] 36)).alloc (.cells #[.string n,.slice none 0 0,.string ⟨#[]⟩,.slice none 0 0] 36)):=by
 obtain ⟨w1,hw1⟩:∃ w1,w1 = w.alloc (.cells #[.string n,av,.string t,kv] 36):=⟨_,rfl⟩
 obtain ⟨w2,hw2⟩:∃ w2,w2 = w1.alloc (.cells #[.string ⟨#[]⟩,.slice none 0 0,.string ⟨#[]⟩,.slice none 0 0] 36):=⟨_,rfl⟩
 obtain ⟨w3,hw3⟩:∃ w3,w3 = w2.alloc (.cells #[.string n,.slice none 0 0,.string ⟨#[]⟩,.slice none 0 0] 36):=⟨_,rfl⟩
 rw [<- hw1,<- hw2,<- hw3];have z1:w1.heap.size = w.heap.size + 1:=by rw [hw1,World.size_alloc]
 have z2:w2.heap.size = w.heap.size + 1 + 1:=by rw [hw2,World.size_alloc,z1]
 have z3:w3.heap.size = w.heap.size + 3:=by rw [hw3,World.size_alloc,z2]
 have k1:Below w.heap.size w w1:=by rw [hw1];exact below_one w _
 have k2:Below w1.heap.size w1 w2:=by rw [hw2];exact below_one w1 _
 have k3:Below w2.heap.size w2 w3:=by rw [hw3];exact below_one w2 _
 refine ⟨wash_two (wash_two k1 k2) k3,?_,?_,?_,World.ownsRow_nil _ _ _ 2,by omega⟩
 ·rw [k3.block _ (by omega),k2.block _ (by omega),hw1];exact heap_alloc_new w _
 ·rw [k3.block _ (by omega),<- z1,hw2];exact heap_alloc_new w1 _
 ·rw [<- z2,hw3];exact heap_alloc_new w2 _
theorem ElI.kept {n t:ByteArray} {av kv:Value} {acc:List AtL} {v:Value} {w wr wr':World} (h:ElI n t av kv acc v w wr) (hb:Below wr.heap.size wr wr'):ElI n t av kv acc v w wr' :=
 have hs:=h.size
 ⟨wash_two h.below hb,(hb.block _ (by omega)).trans h.b0,(hb.block _ (by omega)).trans h.b1,(hb.block _ (by omega)).trans h.b2,h.row.kept (grown_none hb) (by cases hv:v.ownBlock <;> simp),Nat.le_trans hs hb.size⟩
theorem ElI.cells {n t:ByteArray} {av kv:Value} {acc:List AtL} {v:Value} {w wr:World} (h:ElI n t av kv acc v w wr) :
  wr.cell? ⟨w.heap.size,0,none⟩ = some (.string n) /\ wr.cell? ⟨w.heap.size + 1 + 1,1,none⟩ = some v /\ wr.frozen? ⟨w.heap.size + 1 + 1,1,none⟩ = false :=
 ⟨by rw [Lib.cell_of_heap h.b0];rfl,by rw [Lib.cell_of_heap h.b2];rfl,Lib.frozen_of_heap h.b2 1⟩
theorem ElI.push {n t:ByteArray} {av kv:Value} {acc:List AtL} {v v':Value} {f:AtL} {w wr w4:World} (h:ElI n t av kv acc v w wr)
  (ho:w4.ownsRow (w.heap.size + 3) 47 2 v' (acc ++ [f]).length (atVals (acc ++ [f]))) (hg:wr.grownBy w4 v.ownBlock) :
  ElI n t av kv (acc ++ [f]) v' w (w4.setCell ⟨w.heap.size + 1 + 1,1,none⟩ v'):=by
 have hs:=h.size
 have hne:∀ k,k < w.heap.size + 3 -> w4.heap[k]? = wr.heap[k]?:=fun k hk=>hg.block k (by omega) (fun e=>by
  have:=(h.row.lt k e.symm).1;omega)
 have hgp:=grown_put w4 (w.heap.size + 1 + 1) 1 v';have hp:∀ k,k ≠ w.heap.size + 1 + 1 -> (w4.setCell ⟨w.heap.size + 1 + 1,1,none⟩ v').heap[k]? = w4.heap[k]?:=fun k hk=>Below.heap_setCell w4 ⟨w.heap.size + 1 + 1,1,none⟩ v' k hk
 refine ⟨(h.below.grown hg (by have:=h.below.size;exact this) (fun k e=>by have:=(h.row.lt k e).1;omega)).setCell (p:=⟨w.heap.size + 1 + 1,1,none⟩) (by show w.heap.size <= w.heap.size + 1 + 1;omega) v',?_,?_,?_,?_,?_⟩
 ·rw [hp _ (by omega),hne _ (by omega)];exact h.b0
 ·rw [hp _ (by omega),hne _ (by omega)];exact h.b1
 ·rw [heap_put0 ((hne _ (by omega)).trans h.b2)];rfl
 ·exact ho.kept hgp (.inr (fun e=>by have:=(ho.lt _ e).1;omega))
 ·have:=hg.size;rw [World.size_setCell];omega
theorem val_len {rem sty:Bool} {F:List FileL} {e n v x:List UInt8} (hF:F.length <= 40) (hv:v.length <= 1000) (h:valL rem sty F e n v = some x):x.length <= 10000:=by
 have hc:=clean_length v;have hd:=clean_len v;unfold valL at h;split at h
 ·unfold valN at h;split at h
  ·rw [(keepO_some h).2];omega
  ·split at h
   ·rcases srcL_some (by omega) h with ⟨i,h1,h2,rfl⟩ | ⟨_,_,rfl⟩
    ·unfold attN numL attL;split <;> simp
    ·omega
   ·split at h
    ·rw [(keepO_some h).2];omega
    ·repeat' (split at h)
     all_goals first
      |(rw [(keepO_some h).2];omega)
      |(injection h with h;rw [<- h];omega)
 ·cases h
theorem step_at {ops:Array Oper} {o:Oper} {a:Act} {w:World} {K:Act -> World -> Prop} {Q:Exit -> Act -> World -> Prop} {E:Prop} (hgd:o.guard = none) (s x:Operand)
  (ho:o.op = .call { callee:=.builtin .append,args:=#[s,x],argTypes:=#[34,34] })
  (B:Nat) (v:Value) (l:List AtL) (hs:a.eval s = v) (hb:w.ownsRow B 47 2 v l.length (atVals l)) (hB:B <= w.heap.size) (ad:Addr)
  (hx:a.eval x = .slice (some ad) 1 1) (f:AtL) (h0:w.cell? (ad.add 0) = some (.string (str f.1))) (h1:w.cell? (ad.add 1) = some (.string (str f.2))) (hlen:l.length + 1 <= 1000000000)
  (h:∀ v' w',w'.ownsRow B 47 2 v' (l ++ [f]).length (atVals (l ++ [f])) -> w.grownBy w' v.ownBlock -> K (a.put o.dst v') w') :
  if Region.wanted o (yielded ops a.tmps) = true then Oper.wp Tryz.prog o a w K Q else E:=by
 have hw:Region.wanted o (yielded ops a.tmps) = true:=by simp [Region.wanted,hgd]
 rw [if_pos hw];obtain ⟨i0,hi,hz0,hz1,hz2⟩:=info_parts info_at;refine wp_append_own2 _ s x 34 ho B 47 i0 (.agg #[.string ByteArray.empty,.string ByteArray.empty]) 2 32 Tryz.underlying34 hi hz0 hz1 hz2 rfl (by decide) v l.length (atVals l) hs hb ad 1 1 [.string (str f.1),.string (str f.2)] hx rfl ?_ ?_ (by unfold maxLen;omega) (by omega) hB ?_
 ·intro j u hj
  match j,hj with
  | 0,hj=>simp at hj;subst hj;exact h0
  | 1,hj=>simp at hj;subst hj;exact h1
  | (j + 2),hj=>simp at hj
 ·intro u hu;simp at hu;rcases hu with rfl | rfl
  ·rfl
  ·rfl
 ·intro v' w' ho' hg _;exact h v' w' (by rw [atVals_append,List.length_append];exact ho') hg
theorem elemA_cons (rem sty : Bool) (F : List FileL) (e : List UInt8) (acc : List AtL) (a : AtL) (r : List AtL) : elemA rem sty F e acc (a :: r) = elemA rem sty F e (if (firstA acc a.1).isSome = true then acc else match valL rem sty F e a.1 a.2 with
      | some v => acc ++ [(a.1, validL v)]
      | none => acc) r := rfl
theorem at_row (W:World) (c0 c1:Value):(W.alloc (.cells #[c0,c1] 47)).cell? ((⟨W.heap.size,0,none⟩:Addr).add 0) = some c0 /\ (W.alloc (.cells #[c0,c1] 47)).cell? ((⟨W.heap.size,0,none⟩:Addr).add 1) = some c1:=by
 have h:(W.alloc (.cells #[c0,c1] 47)).heap[W.heap.size]? = some (.cells #[c0,c1] 47 (0,0)):=heap_alloc_new W _;exact ⟨by rw [Addr.add_lit,Lib.cell_of_heap h];rfl,by rw [Addr.add_lit,Lib.cell_of_heap h];rfl⟩
theorem ElI.grownCells {n t:ByteArray} {av kv:Value} {acc:List AtL} {v:Value} {w wr w5:World} (h:ElI n t av kv acc v w wr) (hg:wr.grownBy w5 v.ownBlock) :
  w5.cell? ⟨w.heap.size + 1 + 1,1,none⟩ = some v /\ w5.frozen? ⟨w.heap.size + 1 + 1,1,none⟩ = false:=by
 have hs:=h.size;have e:w5.heap[w.heap.size + 1 + 1]? = wr.heap[w.heap.size + 1 + 1]?:=hg.block _ (by omega) (fun e=>by have:=(h.row.lt _ e.symm).1;omega);exact ⟨(World.cell?_of_block e).trans h.cells.2.1,(World.frozen?_of_block e).trans h.cells.2.2⟩
def ElS (n t:ByteArray) (av kv:Value) (r s:Bool) (F:List FileL) (l G:List AtL) (k:Nat) (w wr:World):Prop :=
  ∃ acc v,ElI n t av kv acc v w wr /\ elemA r s F n.data.toList acc (l.drop k) = G /\ acc.length <= k
theorem washElem_any (b : Nat) (r s q lk : Bool) (A : Option Addr) (F : List FileL) (c : Nat) (n t : ByteArray) (av kv : Value) (l : List AtL) (w : World) (hW : WshB b r s q lk A F.length c w) (hF : FilesIn w (.slice A F.length c) F) (hl40 : F.length ≤ 40) (h : AttrsIn w av l) (hf : fewA l) (hk : ∃ A m c, kv = .slice A m c) (hEU : EnvU w) (hEC : EnvC w) (hES : EnvS w) :
    Calls Tryz.prog 62 #[.pointer (some ⟨b, 0, none⟩), .agg #[.string n, av, .string t, kv]] w fun e w' => ∃ v, e = .returned (.agg #[.string n, v, .string ⟨#[]⟩, .slice none 0 0]) ∧ w'.ownsRow w.heap.size 47 2 v (elemA r s F n.data.toList [] l).length (atVals (elemA r s F n.data.toList [] l)) ∧ Below w.heap.size w w' := by
  obtain ⟨Aa, ca, rfl⟩ := h.form
  obtain ⟨Ak, mk, ck, rfl⟩ := hk
  obtain ⟨G, hG⟩ : ∃ G, G = elemA r s F n.data.toList [] l := ⟨_, rfl⟩
  rw [← hG]
  have HS0 := hide (show ElS n t (.slice Aa l.length ca) (.slice Ak mk ck) r s F l G 0 w _ from ⟨[], _, ElI.new n t (.slice Aa l.length ca) (.slice Ak mk ck) w, hG.symm, Nat.le_refl _⟩)
  have HWB := hide hW
  have HFI := hide hF
  have H := hide h
  have HFA := hide hf
  have HE := hide (And.intro hEU (And.intro hEC hES))
  have HL40 := hide hl40
  have hl := hf.1
  clear hW hF h hf hEU hEC hES hG hl40
  go_enter Tryz.func62, Tryz.ntmps62
  go_wp2_with fail
  go_loopw [18] (fun iv wr => ∃ k : Nat, k ≤ l.length ∧ iv = .int .i64 k ∧ Hid (ElS n t (.slice Aa l.length ca) (.slice Ak mk ck) r s F l G k w wr)) (fun iv _ => l.length - (intOf iv).toNat)
  case atStart => exact ⟨0, Nat.zero_le _, rfl, HS0⟩
  case round =>
    clear HS0
    obtain ⟨k, hk, rfl, HS⟩ := hrel
    have hk6 : k ≤ 1000000 := by omega
    obtain ⟨acc, v, hi, hg, hak⟩ := HS.out
    have HI := hide hi
    have HG := hide hg
    have HAK := hide hak
    clear hi hg hak HS
    by_cases hlt : k < l.length
    · have hat := H.out.kept HI.out.below
      obtain ⟨a, ha, c0, c1⟩ := hat.at k _ (List.getElem?_eq_getElem hlt)
      subst ha
      have hdr : l.drop k = l[k] :: l.drop (k + 1) := List.drop_eq_getElem_cons hlt
      have hmem := List.getElem_mem hlt
      obtain ⟨p, hp⟩ : ∃ p, p = l[k]'hlt := ⟨_, rfl⟩
      rw [← hp] at c0 c1 hdr hmem
      have HG2 : Hid (elemA r s F n.data.toList acc (p :: l.drop (k + 1)) = G) := hide (by rw [← hdr]; exact HG.out)
      obtain ⟨P1, hP1⟩ : ∃ P1, P1 = str p.1 := ⟨_, rfl⟩
      obtain ⟨P2, hP2⟩ : ∃ P2, P2 = str p.2 := ⟨_, rfl⟩
      rw [← hP1] at c0
      rw [← hP2] at c1
      have HP := hide (And.intro hP1 (And.intro hP2 hmem))
      have HLT := hide hlt
      -- the attribute's box
      obtain ⟨wa, hwa⟩ : ∃ wa, wa = wr.alloc (.cells #[.string P1, .string P2] 47) := ⟨_, rfl⟩
      have hba : Below wr.heap.size wr wa := by rw [hwa]; exact below_one wr _
      have HIA := hide (HI.out.kept hba)
      obtain ⟨Av, cv, hv⟩ := own_any HIA.out.row
      subst hv
      have hka : wa.heap[wr.heap.size]? = some (.cells #[.string P1, .string P2] 47 (0, 0)) := by rw [hwa]; exact heap_alloc_new wr _
      have x0 : wa.cell? ⟨wr.heap.size, 0, none⟩ = some (.string P1) := by rw [Lib.cell_of_heap hka]; rfl
      have x1 : wa.cell? ⟨wr.heap.size, 1, none⟩ = some (.string P2) := by rw [Lib.cell_of_heap hka]; rfl
      have x2 := HIA.out.cells.2.1
      have x3 : ∀ o, (wr.alloc o).cell? ⟨w.heap.size + 1 + 1, 1, none⟩ = some (.slice Av acc.length cv) := fun o => (World.cell?_of_block ((below_one wr o).block (w.heap.size + 1 + 1) (by have := HI.out.size; omega))).trans HI.out.cells.2.1
      have HF1 := hide (first_any _ acc P1 wa (attrs_of_row HIA.out.row) (by have := HAK.out; omega))
      have HNE : Hid (∀ g, (Value.slice Av acc.length cv).ownBlock = some g → g ≠ wr.heap.size) := hide (fun g e => by have := (HI.out.row.lt g e).2; omega)
      have HNK : Hid (¬ (w.heap.size + 1 + 1 = wr.heap.size)) := hide (by have := HI.out.size; omega)
      have HWA := hide hwa
      have HKA := hide hka
      rw [show P1.data.toList = p.1 from by rw [hP1, str_toList]] at HF1
      clear hp hP1 hP2 hmem hdr hat hba hka hwa HI
      cases hq : firstA acc p.1 with
      | some x =>
        rw [hq] at HF1
        unfold firstV at HF1
        simp only at HF1
        have HG3 : Hid (elemA r s F n.data.toList acc (l.drop (k + 1)) = G) := hide (by rw [← HG2.out, elemA_cons, hq]; rfl)
        rw [HWA.out] at HF1 HIA
        clear hq x0 x1 x2 HG HG2
        go_wp2_with fail
        refine HF1.out.mono ?_
        rintro e w2 ⟨rfl, hb2⟩
        have HI2 := hide (HIA.out.kept hb2)
        clear hb2
        go_wp2_with fail
        go_roundw
        case rel => exact ⟨k + 1, HLT.out, by go_num, hide ⟨acc, _, HI2.out, HG3.out, by have := HAK.out; omega⟩⟩
        case measure => simp [intOf]; have := HLT.out; omega
      | none =>
        rw [hq] at HF1
        unfold firstV at HF1
        simp only at HF1
        have HG3 : Hid (valL r s F n.data.toList p.1 p.2 = none → elemA r s F n.data.toList acc (l.drop (k + 1)) = G) := hide (fun e => by rw [← HG2.out, elemA_cons, hq, e]; rfl)
        have HG4 : Hid (∀ x, valL r s F n.data.toList p.1 p.2 = some x → elemA r s F n.data.toList (acc ++ [(p.1, validL x)]) (l.drop (k + 1)) = G) := hide (fun x e => by rw [← HG2.out, elemA_cons, hq, e]; rfl)
        rw [HWA.out] at HF1 HIA HKA
        clear hq x0 x1 x2 HG HG2
        go_wp2_with fail
        refine HF1.out.mono ?_
        rintro e w2 ⟨rfl, hb2⟩
        have HI2 := hide (HIA.out.kept hb2)
        have hbw2 := HI2.out.below
        have hwb2 := HWB.out.kept hbw2
        unfold WshB at hwb2
        have hka2 := (hb2.block _ (lt_of_block HKA.out)).trans HKA.out
        have y0 : w2.cell? ⟨b, 0, none⟩ = some (.bool r) := by rw [Lib.cell_of_heap hwb2]; rfl
        have y1 : w2.cell? ⟨b, 1, none⟩ = some (.bool s) := by rw [Lib.cell_of_heap hwb2]; rfl
        have y2 : w2.cell? ⟨b, 2, none⟩ = some (.bool q) := by rw [Lib.cell_of_heap hwb2]; rfl
        have y3 : w2.cell? ⟨b, 3, none⟩ = some (.slice A F.length c) := by rw [Lib.cell_of_heap hwb2]; rfl
        have y4 := HI2.out.cells.1
        have y5 : w2.cell? ⟨wr.heap.size, 0, none⟩ = some (.string P1) := by rw [Lib.cell_of_heap hka2]; rfl
        have y6 : w2.cell? ⟨wr.heap.size, 1, none⟩ = some (.string P2) := by rw [Lib.cell_of_heap hka2]; rfl
        have HV := hide (fun (w' : World) (hb' : Below w2.heap.size w2 w') => value_any r s q A F c n P1 P2 w' (HFI.out.kept (hbw2.trans (hb'.mono hbw2.size))) HL40.out (by rw [HP.out.2.1, str_size]; exact Nat.le_trans (HFA.out.2 p HP.out.2.2) (by decide)) (HE.out.1.kept (hbw2.trans (hb'.mono hbw2.size))) (HE.out.2.1.kept (hbw2.trans (hb'.mono hbw2.size))) (HE.out.2.2.kept (hbw2.trans (hb'.mono hbw2.size))))
        rw [show P1.data.toList = p.1 from by rw [HP.out.1, str_toList], show P2.data.toList = p.2 from by rw [HP.out.2.1, str_toList]] at HV
        have HKA2 := hide hka2
        have hdw := (Below.refl w2.heap.size w2).drew
        have HDW := hide hdw
        clear hb2 hwb2 hbw2 hka2 hdw x3 c0 c1 HF1 HIA HKA
        have HVL : Hid (∀ x, valL r s F n.data.toList p.1 p.2 = some x → x.length ≤ 10000) := hide (fun x e => val_len HL40.out (HFA.out.2 p HP.out.2.2) e)
        obtain ⟨Vq, hVq⟩ : ∃ Vq, Vq = valL r s F n.data.toList p.1 p.2 := ⟨_, rfl⟩
        rw [← hVq] at HV HG3 HG4 HVL
        clear hVq
        cases Vq with
        | none =>
          have HG5 := hide (HG3.out rfl)
          rw [valV_none] at HV
          clear HG3 HG4
          have HKP : Hid (∀ wx wy, Below wx.heap.size wx wy → Below w2.heap.size w2 wx → Below w2.heap.size w2 wy ∧ wy.cell? ⟨b, 0, none⟩ = some (.bool r) ∧ wy.cell? ⟨b, 1, none⟩ = some (.bool s) ∧ wy.cell? ⟨b, 2, none⟩ = some (.bool q) ∧ wy.cell? ⟨b, 3, none⟩ = some (.slice A F.length c) ∧ wy.cell? ⟨w.heap.size, 0, none⟩ = some (.string n) ∧ wy.cell? ⟨wr.heap.size, 0, none⟩ = some (.string P1) ∧ wy.cell? ⟨wr.heap.size, 1, none⟩ = some (.string P2)) := hide fun wx wy h3 h2 => by
            have hb := h2.trans (h3.mono h2.size)
            exact ⟨hb, (hb.cell (World.block_lt_of_cell? _ _ y0)).trans y0, (hb.cell (World.block_lt_of_cell? _ _ y1)).trans y1, (hb.cell (World.block_lt_of_cell? _ _ y2)).trans y2, (hb.cell (World.block_lt_of_cell? _ _ y3)).trans y3, (hb.cell (World.block_lt_of_cell? _ _ y4)).trans y4, (hb.cell (World.block_lt_of_cell? _ _ y5)).trans y5, (hb.cell (World.block_lt_of_cell? _ _ y6)).trans y6⟩
          have hcb := Below.refl w2.heap.size w2
          go_wp2_with fail
          go_region_held3 (fun w' => Below w2.heap.size w2 w' ∧ w'.cell? ⟨b, 0, none⟩ = some (.bool r) ∧ w'.cell? ⟨b, 1, none⟩ = some (.bool s) ∧ w'.cell? ⟨b, 2, none⟩ = some (.bool q) ∧ w'.cell? ⟨b, 3, none⟩ = some (.slice A F.length c) ∧ w'.cell? ⟨w.heap.size, 0, none⟩ = some (.string n) ∧ w'.cell? ⟨wr.heap.size, 0, none⟩ = some (.string P1) ∧ w'.cell? ⟨wr.heap.size, 1, none⟩ = some (.string P2))
            (refine ⟨?_, ?_, ?_, ?_, ?_, ?_, ?_, ?_⟩ <;> first | (with_reducible assumption) | (with_reducible exact Below.drew (by assumption)) | (with_reducible exact (HKP.out _ _ (by with_reducible assumption) (by first | with_reducible assumption | with_reducible exact And.left (by assumption))).1) | (with_reducible exact (HKP.out _ _ (by with_reducible assumption) (by first | with_reducible assumption | with_reducible exact And.left (by assumption))).2.1) | (with_reducible exact (HKP.out _ _ (by with_reducible assumption) (by first | with_reducible assumption | with_reducible exact And.left (by assumption))).2.2.1) | (with_reducible exact (HKP.out _ _ (by with_reducible assumption) (by first | with_reducible assumption | with_reducible exact And.left (by assumption))).2.2.2.1) | (with_reducible exact (HKP.out _ _ (by with_reducible assumption) (by first | with_reducible assumption | with_reducible exact And.left (by assumption))).2.2.2.2.1) | (with_reducible exact (HKP.out _ _ (by with_reducible assumption) (by first | with_reducible assumption | with_reducible exact And.left (by assumption))).2.2.2.2.2.1) | (with_reducible exact (HKP.out _ _ (by with_reducible assumption) (by first | with_reducible assumption | with_reducible exact And.left (by assumption))).2.2.2.2.2.2.1) | (with_reducible exact (HKP.out _ _ (by with_reducible assumption) (by first | with_reducible assumption | with_reducible exact And.left (by assumption))).2.2.2.2.2.2.2) | go_keep)
            (first
            | (go_at_call 88; go_must (refine (HV.out _ (by first | with_reducible assumption | with_reducible exact And.left (by assumption))).mono ?_; rintro e w3 ⟨rfl, hb3⟩)))
          have hbc : Below w2.heap.size w2 w3 := by first | with_reducible assumption | with_reducible exact And.left (by assumption)
          have HI3 := hide (HI2.out.kept hbc)
          clear hbc hcb HKP y0 y1 y2 y3 y4 y5 y6 HV HDW
          go_wp2_with fail
          go_roundw
          case rel => exact ⟨k + 1, HLT.out, by go_num, hide ⟨acc, _, HI3.out, HG5.out, by have := HAK.out; omega⟩⟩
          case measure => simp [intOf]; have := HLT.out; omega
        | some x =>
          have HG5 := hide (HG4.out x rfl)
          rw [valV_str] at HV
          obtain ⟨Y, hY⟩ : ∃ Y, Y = str x := ⟨_, rfl⟩
          rw [← hY] at HV
          have HY := hide hY
          clear HG3 HG4 hY
          have HKP : Hid (∀ wx wy, Below wx.heap.size wx wy → Below w2.heap.size w2 wx → Below w2.heap.size w2 wy ∧ wy.cell? ⟨b, 0, none⟩ = some (.bool r) ∧ wy.cell? ⟨b, 1, none⟩ = some (.bool s) ∧ wy.cell? ⟨b, 2, none⟩ = some (.bool q) ∧ wy.cell? ⟨b, 3, none⟩ = some (.slice A F.length c) ∧ wy.cell? ⟨w.heap.size, 0, none⟩ = some (.string n) ∧ wy.cell? ⟨wr.heap.size, 0, none⟩ = some (.string P1) ∧ wy.cell? ⟨wr.heap.size, 1, none⟩ = some (.string P2)) := hide fun wx wy h3 h2 => by
            have hb := h2.trans (h3.mono h2.size)
            exact ⟨hb, (hb.cell (World.block_lt_of_cell? _ _ y0)).trans y0, (hb.cell (World.block_lt_of_cell? _ _ y1)).trans y1, (hb.cell (World.block_lt_of_cell? _ _ y2)).trans y2, (hb.cell (World.block_lt_of_cell? _ _ y3)).trans y3, (hb.cell (World.block_lt_of_cell? _ _ y4)).trans y4, (hb.cell (World.block_lt_of_cell? _ _ y5)).trans y5, (hb.cell (World.block_lt_of_cell? _ _ y6)).trans y6⟩
          have hcb := Below.refl w2.heap.size w2
          go_wp2_with fail
          go_region_held3 (fun w' => Below w2.heap.size w2 w' ∧ w'.cell? ⟨b, 0, none⟩ = some (.bool r) ∧ w'.cell? ⟨b, 1, none⟩ = some (.bool s) ∧ w'.cell? ⟨b, 2, none⟩ = some (.bool q) ∧ w'.cell? ⟨b, 3, none⟩ = some (.slice A F.length c) ∧ w'.cell? ⟨w.heap.size, 0, none⟩ = some (.string n) ∧ w'.cell? ⟨wr.heap.size, 0, none⟩ = some (.string P1) ∧ w'.cell? ⟨wr.heap.size, 1, none⟩ = some (.string P2))
            (refine ⟨?_, ?_, ?_, ?_, ?_, ?_, ?_, ?_⟩ <;> first | (with_reducible assumption) | (with_reducible exact Below.drew (by assumption)) | (with_reducible exact (HKP.out _ _ (by with_reducible assumption) (by first | with_reducible assumption | with_reducible exact And.left (by assumption))).1) | (with_reducible exact (HKP.out _ _ (by with_reducible assumption) (by first | with_reducible assumption | with_reducible exact And.left (by assumption))).2.1) | (with_reducible exact (HKP.out _ _ (by with_reducible assumption) (by first | with_reducible assumption | with_reducible exact And.left (by assumption))).2.2.1) | (with_reducible exact (HKP.out _ _ (by with_reducible assumption) (by first | with_reducible assumption | with_reducible exact And.left (by assumption))).2.2.2.1) | (with_reducible exact (HKP.out _ _ (by with_reducible assumption) (by first | with_reducible assumption | with_reducible exact And.left (by assumption))).2.2.2.2.1) | (with_reducible exact (HKP.out _ _ (by with_reducible assumption) (by first | with_reducible assumption | with_reducible exact And.left (by assumption))).2.2.2.2.2.1) | (with_reducible exact (HKP.out _ _ (by with_reducible assumption) (by first | with_reducible assumption | with_reducible exact And.left (by assumption))).2.2.2.2.2.2.1) | (with_reducible exact (HKP.out _ _ (by with_reducible assumption) (by first | with_reducible assumption | with_reducible exact And.left (by assumption))).2.2.2.2.2.2.2) | go_keep)
            (first
            | (go_at_call 88; go_must (refine (HV.out _ (by first | with_reducible assumption | with_reducible exact And.left (by assumption))).mono ?_; rintro e w3 ⟨rfl, hb3⟩)))
          have hbc : Below w2.heap.size w2 w3 := by first | with_reducible assumption | with_reducible exact And.left (by assumption)
          have HI3 := hide (HI2.out.kept hbc)
          have hka3 := (hbc.block _ (lt_of_block HKA2.out)).trans HKA2.out
          have p0 : w3.cell? ⟨wr.heap.size, 0, none⟩ = some (.string P1) := by rw [Lib.cell_of_heap hka3]; rfl
          have m0 := HI3.out.cells.2.1
          have mf := HI3.out.cells.2.2
          have HKA3 := hide hka3
          have HXL := hide (HVL.out x rfl)
          have HVa := hide (fun (w' : World) => valid_any Y w' (by rw [HY.out, str_size]; have := HXL.out; omega))
          rw [show Y.data.toList = x from by rw [HY.out, str_toList]] at HVa
          obtain ⟨Z, hZ⟩ : ∃ Z, Z = str (validL x) := ⟨_, rfl⟩
          rw [← hZ] at HVa
          have HZ := hide hZ
          have HD3 := hide ((Below.refl w3.heap.size w3).drew)
          have hk3 := World.block_lt_of_cell? _ _ p0
          have hnk : ¬ (w.heap.size + 1 + 1 = wr.heap.size) := HNK.out
          have hnk2 : ¬ (wr.heap.size = w.heap.size + 1 + 1) := fun e => HNK.out e.symm
          have hm3 := World.block_lt_of_cell? _ _ m0
          clear hbc hcb HKP y0 y1 y2 y3 y4 y5 y6 HV HDW hka3 hZ
          go_wp2_with fail
          go_region_law (first
            | (rw [if_pos (by simp [Region.wanted])]; go_simp; go_at_call 58; (with_reducible refine (HVa.out _).mono ?_); rintro e w4 ⟨rfl, hb4⟩; have hb5 := HD3.out.trans (hb4.mono HD3.out.size); have p1 := (hb5.cell hk3).trans p0; have m1 := (hb5.cell hm3).trans m0; have HI4 := hide (HI3.out.kept hb5); have m1a : ∀ o, (w4.alloc o).cell? ⟨w.heap.size + 1 + 1, 1, none⟩ = some (.slice Av acc.length cv) := (fun o => ((below_one w4 o).cell (World.block_lt_of_cell? _ _ m1)).trans m1); clear hb4 hb5)
            | (refine step_at rfl _ _ rfl (w.heap.size + 3) (.slice Av acc.length cv) acc rfl (HI4.out.kept (below_one w4 (.cells #[.string P1, .string Z] 47))).row (HI4.out.kept (below_one w4 (.cells #[.string P1, .string Z] 47))).size ⟨w4.heap.size, 0, none⟩ rfl (p.1, validL x) (by rw [← HP.out.1]; exact (at_row _ _ _).1) (by rw [← HZ.out]; exact (at_row _ _ _).2) (by have := HAK.out; omega) ?_
               intro v' w5 ho5 hg5
               obtain ⟨A5, c5, hv5⟩ := own_any ho5
               subst hv5
               obtain ⟨m5, f5⟩ := (HI4.out.kept (below_one w4 (.cells #[.string P1, .string Z] 47))).grownCells hg5
               have p5 : w5.cell? ⟨wr.heap.size, 0, none⟩ = some (.string P1) := (World.cell?_of_block (a := ⟨wr.heap.size, 0, none⟩) (hg5.block wr.heap.size (World.block_lt_of_cell? (a := ⟨wr.heap.size, 0, none⟩) _ (((below_one w4 _).cell (World.block_lt_of_cell? _ _ p1)).trans p1)) (fun e => HNE.out _ e.symm rfl))).trans (((below_one w4 _).cell (World.block_lt_of_cell? _ _ p1)).trans p1)
               have HI5 := hide ((HI4.out.kept (below_one w4 (.cells #[.string P1, .string Z] 47))).push ho5 hg5)
               clear ho5 hg5))
          all_goals
            go_wp2_with fail
            go_roundw
            case rel => exact ⟨k + 1, HLT.out, by go_num, hide ⟨acc ++ [(p.1, validL x)], _, (by have h9 := HI5.out; simp only [List.length_append, List.length_cons, List.length_nil, Nat.zero_add] at h9; exact h9), HG5.out, by rw [List.length_append]; have := HAK.out; simp only [List.length_cons, List.length_nil]; omega⟩⟩
            case measure => simp [intOf]; have := HLT.out; omega
    · have hge : G = acc := by rw [← HG.out, List.drop_eq_nil_of_le (by omega)]; rfl
      obtain ⟨Av, cv, hv⟩ := own_any HI.out.row
      subst hv
      have h1 := HI.out.b1
      have h2 := HI.out.b2
      have z0 : wr.cell? ⟨w.heap.size + 1 + 1, 0, none⟩ = some (.string n) := by rw [Lib.cell_of_heap h2]; rfl
      have z1 : wr.cell? ⟨w.heap.size + 1 + 1, 1, none⟩ = some (.slice Av acc.length cv) := by rw [Lib.cell_of_heap h2]; rfl
      have z2 : wr.cell? ⟨w.heap.size + 1 + 1, 2, none⟩ = some (.string ⟨#[]⟩) := by rw [Lib.cell_of_heap h2]; rfl
      have z3 : wr.cell? ⟨w.heap.size + 1 + 1, 3, none⟩ = some (.slice none 0 0) := by rw [Lib.cell_of_heap h2]; rfl
      have y0 : wr.cell? ⟨w.heap.size + 1, 0, none⟩ = some (.string ⟨#[]⟩) := by rw [Lib.cell_of_heap h1]; rfl
      have y1 : wr.cell? ⟨w.heap.size + 1, 1, none⟩ = some (.slice none 0 0) := by rw [Lib.cell_of_heap h1]; rfl
      have y2 : wr.cell? ⟨w.heap.size + 1, 2, none⟩ = some (.string ⟨#[]⟩) := by rw [Lib.cell_of_heap h1]; rfl
      have y3 : wr.cell? ⟨w.heap.size + 1, 3, none⟩ = some (.slice none 0 0) := by rw [Lib.cell_of_heap h1]; rfl
      have yf : ∀ i, wr.frozen? ⟨w.heap.size + 1, i, none⟩ = false := fun i => Lib.frozen_of_heap h1 i
      have hk4 := heap_four h1 (.string n) (.slice Av acc.length cv) (.string ⟨#[]⟩) (.slice none 0 0)
      have hg4 := grown_four wr (w.heap.size + 1) (.string n) (.slice Av acc.length cv) (.string ⟨#[]⟩) (.slice none 0 0)
      have HEND := hide (And.intro (HI.out.below.grown hg4 HI.out.below.size (fun k e => by injection e with e; omega)) (HI.out.row.kept hg4 (.inr (fun e => by have := (HI.out.row.lt _ e).1; omega))))
      have HK4 := hide hk4
      clear h1 h2 hk4 hg4
      go_wp2_with fail
      (try simp only [Exit.inBlock, Exit.then])
      refine bodyPost_ret (results_cell_row rfl _ _ (w.heap.size + 1) _ _ _ _ rfl HK4.out Tryz.underlying36 rfl (by kernel_rfl)) rfl ?_
      rw [hge]
      exact ⟨_, rfl, ownsRow_down HEND.out.2 (by omega), HEND.out.1⟩
def EnvW (w:World):Prop:=EnvU w /\ EnvC w /\ EnvS w
theorem EnvW.kept {w w':World} (h:EnvW w) (hb:Below w.heap.size w w'):EnvW w':=⟨h.1.kept hb,h.2.1.kept hb,h.2.2.kept hb⟩
def WshE (b:Nat) (r s q lk:Bool) (A:Option Addr) (F:List FileL) (c:Nat) (w:World):Prop:=WshB b r s q lk A F.length c w /\ FilesIn w (.slice A F.length c) F /\ F.length <= 40 /\ EnvW w
theorem WshE.kept {b:Nat} {r s q lk:Bool} {A:Option Addr} {F:List FileL} {c:Nat} {w w':World} (h:WshE b r s q lk A F c w) (hb:Below w.heap.size w w'):WshE b r s q lk A F c w':=⟨h.1.kept hb,h.2.1.kept hb,h.2.2.1,h.2.2.2.kept hb⟩
theorem okW_few {h:NdH} (hk:okW h = true):fewA h.attrs /\ h.text.length <= 1000000:=by
 unfold okW at hk;simp only [Bool.and_eq_true,decide_eq_true_eq,List.all_eq_true] at hk;exact ⟨⟨hk.1.1,fun a ha=>hk.1.2 a ha⟩,hk.2⟩
theorem attrsC_row {n:Nat} {w:World} {v:Value} {l:List AtL} (h:w.ownsRow n 47 2 v l.length (atVals l)):AttrsC (fun x=>v.ownBlock = some x) w v l :=
 ⟨attrs_of_row h,fun a n c e hl=>by rw [e];rfl⟩
theorem WS.elem {C:Nat -> Prop} {B:Nat} {X:List KidV} {r:Value} {st:List PartW} {W0 w w':World} (h:WS C B X r st W0 w) (hb:Below w.heap.size w w') {v:Value} {G:List AtL} (hr:w'.ownsRow w.heap.size 47 2 v G.length (atVals G)) :
  WS (fun x=>C x \/ v.ownBlock = some x) B X r st W0 w' /\ AttrsC (fun x=>C x \/ v.ownBlock = some x) w' v G :=
 ⟨h.news hb (newC_row (.inr rfl) hr),(attrsC_row hr).mono (fun _ _=>rfl) (fun x hx=>.inr hx)⟩
theorem elem_at {b:Nat} {r s q lk:Bool} {A:Option Addr} {F:List FileL} {c:Nat} {w:World} (hE:WshE b r s q lk A F c w) (h:NdH) (av kv:Value) (ha:AttrsIn w av h.attrs) (hok:okW h = true) (hk:∃ A m c,kv = .slice A m c) (t:ByteArray) :
  Calls Tryz.prog 62 #[.pointer (some ⟨b,0,none⟩),.agg #[.string (str h.name),av,.string t,kv]] w fun e w'=>∃ v,e = .returned (.agg #[.string (str h.name),v,.string ⟨#[]⟩,.slice none 0 0]) /\ w'.ownsRow w.heap.size 47 2 v (elemA r s F h.name [] h.attrs).length (atVals (elemA r s F h.name [] h.attrs)) /\ Below w.heap.size w w':=by
 have:=washElem_any b r s q lk A F c (str h.name) t av kv h.attrs w hE.1 hE.2.1 hE.2.2.1 ha (okW_few hok).1 hk hE.2.2.2.1 hE.2.2.2.2.1 hE.2.2.2.2.2;rw [str_toList] at this;exact this
def StepP (p p':PartW) (s':WashL):Prop:=p'.name = p.name /\ p'.attrs = p.attrs /\ p'.left = p.left /\ p'.toW = s' /\ p'.kids.length <= p.kids.length + 2 /\ p'.tail.length <= p.tail.length + 3000010
theorem AddW.step {p p':PartW} {q:NdH × Tr} (h:AddW p q p'):StepP p p' (wAdd p.toW q):=⟨h.1,h.2.1,h.2.2.1,h.toW,h.kids,by rw [h.2.2.2.2];exact Nat.zero_le _⟩
theorem stepP_refl (p:PartW):StepP p p p.toW:=⟨rfl,rfl,rfl,rfl,by omega,by omega⟩
theorem stepP_txt {p p':PartW} {t:List UInt8} (h:p' = { p with tail:=p.tail ++ t,tv:=p'.tv }) (ht:t.length <= 3000010):StepP p p' (wTxt p.toW t):=by
 rw [h];refine ⟨rfl,rfl,rfl,rfl,?_,?_⟩
 ·show p.kids.length <= _;omega
 ·show (p.tail ++ t).length <= _;rw [List.length_append];omega
theorem sign_len {A:List AtL} (h:fewA A):(signT A).length <= 3000010:=by
 have h1:=validL_length (altL A)
 have h2:(altL A).length <= 1000:=by
  unfold altL;split
  ·decide
  ·cases e:firstA A n_alt with
   | none=>show ([]:List UInt8).length <= 1000;decide
   | some x =>
    obtain ⟨a,ha,h3⟩:=firstA_mem e;show x.length <= 1000
    rw [<- h3];exact h.2 a ha
 unfold signT;simp only [List.length_cons,List.length_append,List.length_nil];omega
theorem elemA_len (rem sty:Bool) (F:List FileL) (e:List UInt8) (l acc:List AtL):(elemA rem sty F e acc l).length <= acc.length + l.length:=by
 induction l generalizing acc with
 | nil=>exact Nat.le_add_right _ _
 | cons a r ih =>
  unfold elemA;refine Nat.le_trans (ih _) ?_;simp only [List.length_cons];split
  ·omega
  ·split
   ·rw [List.length_append];simp only [List.length_cons,List.length_nil];omega
   ·omega
theorem picture_any (C:Nat -> Prop) (X:List KidV) (B g cap:Nat) (p:PartW) (rest:List PartW) (W0 w:World) (h:WS C B X (.slice (some ⟨g,0,none⟩) (rest.length + 1) cap) (p :: rest) W0 w)
  (b:Nat) (r s q lk:Bool) (A:Option Addr) (F:List FileL) (c:Nat) (hE0:WshE b r s q lk A F c W0) (hd:NdH) (av kv:Value) (ha0:AttrsIn W0 av hd.attrs) (hok:okW hd = true) (hk:∃ A m c,kv = .slice A m c)
  (hl:rest.length <= 1048576) (hks:p.kids.length <= 1000000) (ht:p.tail.length <= 70000000000000) :
  Calls Tryz.prog 61 #[.pointer (some ⟨b,0,none⟩),.pointer (some ⟨g,rest.length * 6,none⟩),.agg #[.string (str hd.name),av,.string (str hd.text),kv]] w fun e w'=>e = .returned (.tuple #[]) /\
   ∃ C' p',WS C' B X (.slice (some ⟨g,0,none⟩) (rest.length + 1) cap) (p' :: rest) W0 w' /\ StepP p p' (wPic r s F hd p.toW):=by
 obtain ⟨Ak,mk,ck,rfl⟩:=hk;obtain ⟨Aa,ca,rfl⟩:=ha0.form;have hfew:=(okW_few hok).1;obtain ⟨nm,hnm⟩:∃ nm,nm = str hd.name:=⟨_,rfl⟩
 obtain ⟨tx,htx⟩:∃ tx,tx = str hd.text:=⟨_,rfl⟩
 obtain ⟨W,hW⟩:∃ W,W = w.alloc (.cells #[.string nm,.slice Aa hd.attrs.length ca,.string tx,.slice Ak mk ck] 36):=⟨_,rfl⟩
 have hbw:Below w.heap.size w W:=by rw [hW];exact below_one w _
 have hs:=h.kept hbw;have hb0:=hs.ps.below.mono hs.ps.base;have hkk:W.heap[w.heap.size]? = some (.cells #[.string nm,.slice Aa hd.attrs.length ca,.string tx,.slice Ak mk ck] 36 (0,0)):=by rw [hW];exact heap_alloc_new w _
 obtain ⟨k,hkz⟩:∃ k,k = w.heap.size:=⟨_,rfl⟩
 rw [<- hnm,<- htx];rw [<- hkz] at hkk
 have HC:Hid (∀ w',Below W.heap.size W w' -> WshE b r s q lk A F c w' /\ AttrsIn w' (.slice Aa hd.attrs.length ca) hd.attrs /\ w'.cell? ⟨k,0,none⟩ = some (.string nm) /\ w'.cell? ⟨k,1,none⟩ = some (.slice Aa hd.attrs.length ca) /\ w'.cell? ⟨k,2,none⟩ = some (.string tx) /\ w'.cell? ⟨k,3,none⟩ = some (.slice Ak mk ck) /\ w'.cell? ⟨b,0,none⟩ = some (.bool r) /\ w'.cell? ⟨b,1,none⟩ = some (.bool s) /\ w'.cell? ⟨b,2,none⟩ = some (.bool q)):=hide fun w' hb'=>by
  have hE:=(hE0.kept hb0).kept hb';have hk2:=(hb'.block k (lt_of_block hkk)).trans hkk;have hwb:=hE.1;unfold WshB at hwb;exact ⟨hE,(ha0.kept hb0).kept hb',by rw [Lib.cell_of_heap hk2];rfl,by rw [Lib.cell_of_heap hk2];rfl,by rw [Lib.cell_of_heap hk2];rfl,by rw [Lib.cell_of_heap hk2];rfl,by rw [Lib.cell_of_heap hwb];rfl,by rw [Lib.cell_of_heap hwb];rfl,by rw [Lib.cell_of_heap hwb];rfl⟩
 have HP:Hid (∀ w',Below W.heap.size W w' -> Calls Tryz.prog 28 #[.agg #[.string nm,.slice Aa hd.attrs.length ca,.string tx,.slice Ak mk ck]] w' fun e w''=>e = .returned (.bool (pixB hd.attrs)) /\ Below w'.heap.size w' w''):=hide fun w' hb'=>isPixel_any nm tx _ _ hd.attrs w' (HC.out w' hb').2.1 hfew.1 ⟨_,_,_,rfl⟩
 have HB:Hid (∀ w',Below W.heap.size W w' -> Calls Tryz.prog 27 #[.agg #[.bool r,.bool s,.bool q],.agg #[.string nm,.slice Aa hd.attrs.length ca,.string tx,.slice Ak mk ck]] w' fun e w''=>e = .returned (.bool (blkB r hd.name hd.attrs)) /\ Below w'.heap.size w' w''):=hide fun w' hb'=>by
  have:=isBlocked_any r s q nm tx _ (.slice Ak mk ck) hd.attrs w' (HC.out w' hb').2.1 hfew ⟨_,_,_,rfl⟩ (HC.out w' hb').1.2.2.2.1;rw [show nm.data.toList = hd.name from by rw [hnm,str_toList]] at this;exact this
 have HS:Hid (∀ w',Below W.heap.size W w' -> Calls Tryz.prog 87 #[.agg #[.string nm,.slice Aa hd.attrs.length ca,.string tx,.slice Ak mk ck]] w' fun e w''=>e = .returned (.string (str (signT hd.attrs))) /\ Below w'.heap.size w' w''):=hide fun w' hb'=>sign_any nm tx _ _ hd.attrs w' (HC.out w' hb').2.1 hfew ⟨_,_,_,rfl⟩
 have HEL:Hid (∀ w',Below W.heap.size W w' -> Calls Tryz.prog 62 #[.pointer (some ⟨b,0,none⟩),.agg #[.string nm,.slice Aa hd.attrs.length ca,.string tx,.slice Ak mk ck]] w' fun e w''=>∃ v,e = .returned (.agg #[.string nm,v,.string ⟨#[]⟩,.slice none 0 0]) /\ w''.ownsRow w'.heap.size 47 2 v (elemA r s F hd.name [] hd.attrs).length (atVals (elemA r s F hd.name [] hd.attrs)) /\ Below w'.heap.size w' w''):=hide fun w' hb'=>by
  have:=elem_at (HC.out w' hb').1 hd _ (.slice Ak mk ck) (HC.out w' hb').2.1 hok ⟨_,_,_,rfl⟩ tx;rw [<- hnm] at this;exact this
 have HSW:=hide hs;have HW:=hide hW;have HKZ:=hide hkz;have HSL:=hide (sign_len hfew);have HL:=hide (And.intro hl (And.intro hks ht));have HNM:=hide hnm;have HR:=hide (Below.refl W.heap.size W);obtain ⟨c0,c1,c2,c3,c4,c5,c6,c7,c8⟩:=(HC.out W HR.out)
 clear h hE0 ha0 hok htx hbw hs hb0 hkk hW hkz hl hks ht hnm c0 c1;cases hpx:pixB hd.attrs with
 | true =>
  clear hfew;have HG:Hid (wPic r s F hd p.toW = p.toW):=hide (by unfold wPic;rw [if_pos hpx]);rw [hpx] at HP;clear hpx HB HS HEL;go_enter Tryz.func61,Tryz.ntmps61;go_wp2_with fail;rw [<- HW.out,<- HKZ.out];go_wp2_with fail;refine (HP.out _ HR.out).mono ?_;rintro e w1 ⟨rfl,hb1⟩;have HS1:=hide (HSW.out.kept hb1);clear hb1;go_wp2_with fail;go_end0;exact ⟨rfl,C,p,HS1.out,by rw [HG.out];exact stepP_refl p⟩
 | false =>
 rw [hpx] at HP;cases hbk:blkB r hd.name hd.attrs with
 | true =>
  have HG:Hid (wPic r s F hd p.toW = wTxt p.toW (signT hd.attrs)):=hide (by unfold wPic;rw [if_neg (by rw [hpx];decide),if_pos hbk]);rw [hbk] at HB;obtain ⟨SG,hSG⟩:∃ SG,SG = str (signT hd.attrs):=⟨_,rfl⟩
  rw [<- hSG] at HS;have HSG:=hide hSG;clear hfew hpx hbk HEL hSG;go_enter Tryz.func61,Tryz.ntmps61;go_wp2_with fail;rw [<- HW.out,<- HKZ.out];go_wp2_with fail;refine (HP.out _ HR.out).mono ?_;rintro e w1 ⟨rfl,hb1⟩;have HB1:=hide hb1;clear c2 c3 c4 c5 c6 c7 c8;obtain ⟨c0,c1,c2,c3,c4,c5,c6,c7,c8⟩:=(HC.out w1 HB1.out)
  clear hb1 c0 c1;go_wp2_with fail;go_region_with (go_at_call 27;refine (HB.out _ (by first | exact HB1.out | exact HB1.out.drew | exact (below_drewN _ _).trans HB1.out)).mono ?_;rintro e w2 ⟨rfl,hb2⟩)
  all_goals
   have HB2:=hide (HB1.out.drew.trans (hb2.mono HB1.out.drew.size));clear hb2 c2 c3 c4 c5 c6 c7 c8;obtain ⟨c0,c1,c2,c3,c4,c5,c6,c7,c8⟩:=(HC.out w2 HB2.out)
   clear c0 c1 c6 c7 c8;go_wp2_with fail;refine (HS.out _ HB2.out).mono ?_;rintro e w3 ⟨rfl,hb3⟩;have HB3:=hide (HB2.out.trans (hb3.mono HB2.out.size));have HT:=hide (addTextW_any C X B g cap p rest W0 w3 (HSW.out.kept HB3.out) SG (by rw [HSG.out,str_size];have:=HSL.out;have:=HL.out.2.2;omega));clear hb3 c2 c3 c4 c5;go_wp2_with fail;refine HT.out.mono ?_;rintro e w4 ⟨rfl,p',hb4,hp4⟩;have HB4:=hide hb4;have HP4:=hide hp4;clear hb4 hp4;go_wp2_with fail;go_end0;refine ⟨rfl,C,p',HB4.out,?_⟩;rw [HG.out];have:=HP4.out;rw [HSG.out,str_toList] at this;exact stepP_txt this HSL.out
 | false =>
  rw [hbk] at HB;have HG:Hid (wPic r s F hd p.toW = if (firstA (elemA r s F hd.name [] hd.attrs) n_src).isSome = true then wAdd p.toW (elemW r s F hd,.nil) else p.toW):=hide (by unfold wPic;rw [if_neg (by rw [hpx];decide),if_neg (by rw [hbk];decide)];rfl);obtain ⟨G,hG⟩:∃ G,G = elemA r s F hd.name [] hd.attrs:=⟨_,rfl⟩
  rw [<- hG] at HG HEL;have HGG:=hide (show G.length <= 1000000 by rw [hG];have:=elemA_len r s F hd.name hd.attrs [];have:=hfew.1;simp only [List.length_nil] at *;omega);have HGE:=hide hG;clear hfew hpx hbk hG HS;go_enter Tryz.func61,Tryz.ntmps61;go_wp2_with fail;rw [<- HW.out,<- HKZ.out];go_wp2_with fail;refine (HP.out _ HR.out).mono ?_;rintro e w1 ⟨rfl,hb1⟩;have HB1:=hide hb1;clear c2 c3 c4 c5 c6 c7 c8;obtain ⟨c0,c1,c2,c3,c4,c5,c6,c7,c8⟩:=(HC.out w1 HB1.out)
  clear hb1 c0 c1;go_wp2_with fail;go_region_with (go_at_call 27;refine (HB.out _ (by first | exact HB1.out | exact HB1.out.drew | exact (below_drewN _ _).trans HB1.out)).mono ?_;rintro e w2 ⟨rfl,hb2⟩)
  all_goals
   have HB2:=hide (HB1.out.drew.trans (hb2.mono HB1.out.drew.size));clear hb2 c2 c3 c4 c5 c6 c7 c8;obtain ⟨c0,c1,c2,c3,c4,c5,c6,c7,c8⟩:=(HC.out w2 HB2.out)
   clear c0 c1 c6 c7 c8;go_wp2_with fail;refine (HEL.out _ HB2.out).mono ?_;rintro e w3 ⟨v,rfl,ho3,hb3⟩;obtain ⟨VA,VC,hv⟩:=own_any ho3;subst hv;obtain ⟨hs3,hat3⟩:=(HSW.out.kept HB2.out).elem hb3 ho3;have HS3:=hide hs3;have HAT3:=hide hat3;clear hb3 ho3 hs3 hat3 c2 c3 c4 c5;obtain ⟨w4,hw4⟩:∃ w4,w4 = w3.alloc (.cells #[.string nm,.slice VA G.length VC,.string ⟨#[]⟩,.slice none 0 0] 36):=⟨_,rfl⟩
   have hb4:Below w3.heap.size w3 w4:=by rw [hw4];exact below_one w3 _
   have hk4:w4.heap[w3.heap.size]? = some (.cells #[.string nm,.slice VA G.length VC,.string ⟨#[]⟩,.slice none 0 0] 36 (0,0)):=by rw [hw4];exact heap_alloc_new w3 _
   have HF4:=hide (first_any (.slice VA G.length VC) G ⟨#[115,114,99]⟩ w4 (HAT3.out.1.kept hb4) HGG.out);have HK4:=hide hk4;have HB4:=hide hb4;have HW4:=hide hw4;rw [show (⟨#[115,114,99]⟩:ByteArray).data.toList = n_src from rfl] at HF4;clear hb4 hk4 hw4;cases hq:firstA G n_src with
   | none =>
    rw [hq] at HF4 HG;unfold firstV at HF4;simp only at HF4;rw [HW4.out] at HF4;clear hq;go_wp2_with fail;refine HF4.out.mono ?_;rintro e w5 ⟨rfl,hb5⟩;rw [<- HW4.out] at hb5;have HS5:=hide ((HS3.out.kept HB4.out).kept hb5);clear hb5;go_wp2_with fail;go_end0;refine ⟨rfl,_,p,HS5.out,?_⟩;rw [HG.out];exact stepP_refl p
   | some x =>
    rw [hq] at HF4 HG;unfold firstV at HF4;simp only at HF4;rw [HW4.out] at HF4;clear hq;go_wp2_with fail;refine HF4.out.mono ?_;rintro e w5 ⟨rfl,hb5⟩;rw [<- HW4.out] at hb5;have hk5:=(hb5.block _ (lt_of_block HK4.out)).trans HK4.out;have d0:w5.cell? ⟨w3.heap.size,0,none⟩ = some (.string nm):=by rw [Lib.cell_of_heap hk5];rfl
    have d1:w5.cell? ⟨w3.heap.size,1,none⟩ = some (.slice VA G.length VC):=by rw [Lib.cell_of_heap hk5];rfl
    have d2:w5.cell? ⟨w3.heap.size,2,none⟩ = some (.string ⟨#[]⟩):=by rw [Lib.cell_of_heap hk5];rfl
    have d3:w5.cell? ⟨w3.heap.size,3,none⟩ = some (.slice none 0 0):=by rw [Lib.cell_of_heap hk5];rfl
    have hadd:=addW_any _ X B g cap p rest W0 w5 ((HS3.out.kept HB4.out).kept hb5) ⟨hd.name,G,[]⟩ .nil (.slice VA G.length VC) (.slice none 0 0) (HAT3.out.mono (fun x hx=>((wash_two HB4.out hb5).block x (HS3.out.ps.typ x hx).2.1)) (fun _ x=>x)) (.inl ⟨rfl,rfl⟩) HL.out.1 HL.out.2.1 (by have:=HL.out.2.2;omega);rw [show str (⟨hd.name,G,[]⟩:NdH).name = nm from HNM.out.symm,show str (⟨hd.name,G,[]⟩:NdH).text = (⟨#[]⟩:ByteArray) from rfl] at hadd;have HADD:=hide hadd;clear hb5 hk5 hadd;go_wp2_with fail;refine HADD.out.mono ?_;rintro e w6 ⟨rfl,C6,p6,hb6,hp6⟩;have HB6:=hide hb6;have HP6:=hide hp6;clear hb6 hp6;go_wp2_with fail;go_end0;refine ⟨rfl,C6,p6,HB6.out,?_⟩;rw [HG.out];have:=HP6.out.step;rw [HGE.out] at this;exact this
theorem isWall_any (n:ByteArray) (w:World):Calls Tryz.prog 56 #[.string n] w fun e w'=>e = .returned (.bool (wallL.contains n.data.toList)) /\ w = w':=by
 cases hk:wallL.contains n.data.toList with
 | true =>
  have hc:n.data.toList = [116,97,98,108,101] \/ n.data.toList = [98,117,116,116,111,110] \/ n.data.toList = [117,108] \/ n.data.toList = [111,108] \/ n.data.toList = [100,108] \/ n.data.toList = [115,118,103] \/ n.data.toList = [109,97,116,104] \/ n.data.toList = [116,101,109,112,108,97,116,101] \/ n.data.toList = [111,98,106,101,99,116] \/ n.data.toList = [97,112,112,108,101,116] \/ n.data.toList = [109,97,114,113,117,101,101]:=by simpa [wallL] using hk
  clear hk;rcases hc with h | h | h | h | h | h | h | h | h | h | h
  iterate 11
   ·obtain rfl:=ext_lit h;clear h;go_enter Tryz.func56,Tryz.ntmps56;go_wp2_with fail;go_ret;exact ⟨rfl,rfl⟩
 | false =>
  have hc:n.data.toList ≠ [116,97,98,108,101] /\ n.data.toList ≠ [98,117,116,116,111,110] /\ n.data.toList ≠ [117,108] /\ n.data.toList ≠ [111,108] /\ n.data.toList ≠ [100,108] /\ n.data.toList ≠ [115,118,103] /\ n.data.toList ≠ [109,97,116,104] /\ n.data.toList ≠ [116,101,109,112,108,97,116,101] /\ n.data.toList ≠ [111,98,106,101,99,116] /\ n.data.toList ≠ [97,112,112,108,101,116] /\ n.data.toList ≠ [109,97,114,113,117,101,101]:=by simpa [wallL] using hk
  clear hk;obtain ⟨tn0,tn1,tn2,tn3,tn4,tn5,tn6,tn7,tn8,tn9,tn10⟩:=hc;have t0:=nb_lit tn0;have t1:=nb_lit tn1;have t2:=nb_lit tn2;have t3:=nb_lit tn3;have t4:=nb_lit tn4;have t5:=nb_lit tn5;have t6:=nb_lit tn6;have t7:=nb_lit tn7;have t8:=nb_lit tn8;have t9:=nb_lit tn9;have t10:=nb_lit tn10;clear tn0 tn1 tn2 tn3 tn4 tn5 tn6 tn7 tn8 tn9 tn10;go_enter Tryz.func56,Tryz.ntmps56;go_wp2_with fail;go_ret;exact ⟨rfl,rfl⟩
theorem isHeading_any (n:ByteArray) (w:World):Calls Tryz.prog 83 #[.string n] w fun e w'=>e = .returned (.bool (headNL.contains n.data.toList)) /\ w = w':=by
 cases hk:headNL.contains n.data.toList with
 | true =>
  have hc:n.data.toList = [104,49] \/ n.data.toList = [104,50] \/ n.data.toList = [104,51] \/ n.data.toList = [104,52] \/ n.data.toList = [104,53] \/ n.data.toList = [104,54]:=by simpa [headNL] using hk
  clear hk;rcases hc with h | h | h | h | h | h
  iterate 6
   ·obtain rfl:=ext_lit h;clear h;go_enter Tryz.func83,Tryz.ntmps83;go_wp2_with fail;go_ret;exact ⟨rfl,rfl⟩
 | false =>
  have hc:n.data.toList ≠ [104,49] /\ n.data.toList ≠ [104,50] /\ n.data.toList ≠ [104,51] /\ n.data.toList ≠ [104,52] /\ n.data.toList ≠ [104,53] /\ n.data.toList ≠ [104,54]:=by simpa [headNL] using hk
  clear hk;obtain ⟨tn0,tn1,tn2,tn3,tn4,tn5⟩:=hc;have t0:=nb_lit tn0;have t1:=nb_lit tn1;have t2:=nb_lit tn2;have t3:=nb_lit tn3;have t4:=nb_lit tn4;have t5:=nb_lit tn5;clear tn0 tn1 tn2 tn3 tn4 tn5;go_enter Tryz.func83,Tryz.ntmps83;go_wp2_with fail;go_ret;exact ⟨rfl,rfl⟩
theorem void14_any (n:ByteArray) (w:World):Calls Tryz.prog 18 #[.string n] w fun e w'=>e = .returned (.bool (voidL.contains n.data.toList)) /\ w = w':=by
 cases hk:voidL.contains n.data.toList with
 | true =>
  have hc:n.data.toList = [97,114,101,97] \/ n.data.toList = [98,97,115,101] \/ n.data.toList = [98,114] \/ n.data.toList = [99,111,108] \/ n.data.toList = [101,109,98,101,100] \/ n.data.toList = [104,114] \/ n.data.toList = [105,109,103] \/ n.data.toList = [105,110,112,117,116] \/ n.data.toList = [108,105,110,107] \/ n.data.toList = [109,101,116,97] \/ n.data.toList = [115,111,117,114,99,101] \/ n.data.toList = [116,114,97,99,107] \/ n.data.toList = [119,98,114]:=by simpa [voidL] using hk
  clear hk;rcases hc with h | h | h | h | h | h | h | h | h | h | h | h | h
  iterate 13
   ·obtain rfl:=ext_lit h;clear h;go_enter Tryz.func18,Tryz.ntmps18;go_wp2_with fail;go_ret;exact ⟨rfl,rfl⟩
 | false =>
  have hc:n.data.toList ≠ [97,114,101,97] /\ n.data.toList ≠ [98,97,115,101] /\ n.data.toList ≠ [98,114] /\ n.data.toList ≠ [99,111,108] /\ n.data.toList ≠ [101,109,98,101,100] /\ n.data.toList ≠ [104,114] /\ n.data.toList ≠ [105,109,103] /\ n.data.toList ≠ [105,110,112,117,116] /\ n.data.toList ≠ [108,105,110,107] /\ n.data.toList ≠ [109,101,116,97] /\ n.data.toList ≠ [115,111,117,114,99,101] /\ n.data.toList ≠ [116,114,97,99,107] /\ n.data.toList ≠ [119,98,114]:=by simpa [voidL] using hk
  clear hk;obtain ⟨tn0,tn1,tn2,tn3,tn4,tn5,tn6,tn7,tn8,tn9,tn10,tn11,tn12⟩:=hc;have t0:=nb_lit tn0;have t1:=nb_lit tn1;have t2:=nb_lit tn2;have t3:=nb_lit tn3;have t4:=nb_lit tn4;have t5:=nb_lit tn5;have t6:=nb_lit tn6;have t7:=nb_lit tn7;have t8:=nb_lit tn8;have t9:=nb_lit tn9;have t10:=nb_lit tn10;have t11:=nb_lit tn11;have t12:=nb_lit tn12;clear tn0 tn1 tn2 tn3 tn4 tn5 tn6 tn7 tn8 tn9 tn10 tn11 tn12;go_enter Tryz.func18,Tryz.ntmps18;go_wp2_with fail;go_ret;exact ⟨rfl,rfl⟩
theorem isBlock_any (n:ByteArray) (w:World):Calls Tryz.prog 82 #[.string n] w fun e w'=>e = .returned (.bool (blockNL.contains n.data.toList)) /\ w = w':=by
 have hh:∀ bb:Bool,headNL.contains n.data.toList = bb -> Calls Tryz.prog 83 #[.string n] w fun e w'=>e = .returned (.bool bb) /\ w = w':=fun bb e=>by rw [<- e];exact isHeading_any n w
 cases hk:blockNL.contains n.data.toList with
 | true =>
  have hc:n.data.toList = [97,100,100,114,101,115,115] \/ n.data.toList = [97,114,116,105,99,108,101] \/ n.data.toList = [97,115,105,100,101] \/ n.data.toList = [98,108,111,99,107,113,117,111,116,101] \/ n.data.toList = [99,101,110,116,101,114] \/ n.data.toList = [100,101,116,97,105,108,115] \/ n.data.toList = [100,105,118] \/ n.data.toList = [100,108] \/ n.data.toList = [102,105,101,108,100,115,101,116] \/ n.data.toList = [102,105,103,117,114,101] \/ n.data.toList = [102,111,111,116,101,114] \/ n.data.toList = [102,111,114,109] \/ n.data.toList = [104,101,97,100,101,114] \/ n.data.toList = [104,114] \/ n.data.toList = [108,105] \/ n.data.toList = [109,97,105,110] \/ n.data.toList = [110,97,118] \/ n.data.toList = [111,108] \/ n.data.toList = [112] \/ n.data.toList = [112,114,101] \/ n.data.toList = [115,101,99,116,105,111,110] \/ n.data.toList = [116,97,98,108,101] \/ n.data.toList = [117,108] \/ n.data.toList = [100,100] \/ n.data.toList = [100,116] \/ n.data.toList = [104,49] \/ n.data.toList = [104,50] \/ n.data.toList = [104,51] \/ n.data.toList = [104,52] \/ n.data.toList = [104,53] \/ n.data.toList = [104,54]:=by simpa [blockNL] using hk
  clear hk;rcases hc with h | h | h | h | h | h | h | h | h | h | h | h | h | h | h | h | h | h | h | h | h | h | h | h | h | h | h | h | h | h | h
  iterate 25
   ·obtain rfl:=ext_lit h;clear h hh;go_enter Tryz.func82,Tryz.ntmps82;go_wp2_with fail;go_ret;exact ⟨rfl,rfl⟩
  iterate 6
   ·obtain rfl:=ext_lit h;have HH:=hide (hh true (by decide));clear h hh;go_enter Tryz.func82,Tryz.ntmps82;go_wp2_with fail;refine HH.out.mono ?_;rintro e w1 ⟨rfl,rfl⟩;go_wp2_with fail;go_ret;exact ⟨rfl,rfl⟩
 | false =>
  have hc:n.data.toList ≠ [97,100,100,114,101,115,115] /\ n.data.toList ≠ [97,114,116,105,99,108,101] /\ n.data.toList ≠ [97,115,105,100,101] /\ n.data.toList ≠ [98,108,111,99,107,113,117,111,116,101] /\ n.data.toList ≠ [99,101,110,116,101,114] /\ n.data.toList ≠ [100,101,116,97,105,108,115] /\ n.data.toList ≠ [100,105,118] /\ n.data.toList ≠ [100,108] /\ n.data.toList ≠ [102,105,101,108,100,115,101,116] /\ n.data.toList ≠ [102,105,103,117,114,101] /\ n.data.toList ≠ [102,111,111,116,101,114] /\ n.data.toList ≠ [102,111,114,109] /\ n.data.toList ≠ [104,101,97,100,101,114] /\ n.data.toList ≠ [104,114] /\ n.data.toList ≠ [108,105] /\ n.data.toList ≠ [109,97,105,110] /\ n.data.toList ≠ [110,97,118] /\ n.data.toList ≠ [111,108] /\ n.data.toList ≠ [112] /\ n.data.toList ≠ [112,114,101] /\ n.data.toList ≠ [115,101,99,116,105,111,110] /\ n.data.toList ≠ [116,97,98,108,101] /\ n.data.toList ≠ [117,108] /\ n.data.toList ≠ [100,100] /\ n.data.toList ≠ [100,116] /\ n.data.toList ≠ [104,49] /\ n.data.toList ≠ [104,50] /\ n.data.toList ≠ [104,51] /\ n.data.toList ≠ [104,52] /\ n.data.toList ≠ [104,53] /\ n.data.toList ≠ [104,54]:=by simpa [blockNL] using hk
  obtain ⟨tn0,tn1,tn2,tn3,tn4,tn5,tn6,tn7,tn8,tn9,tn10,tn11,tn12,tn13,tn14,tn15,tn16,tn17,tn18,tn19,tn20,tn21,tn22,tn23,tn24,tn25,tn26,tn27,tn28,tn29,tn30⟩:=hc
  have HH:=hide (hh false (by
   have:¬ headNL.contains n.data.toList = true:=by
    simp only [headNL,List.contains_cons,List.contains_nil,Bool.or_false,Bool.or_eq_true,beq_iff_eq,not_or];exact ⟨tn25,tn26,tn27,tn28,tn29,tn30⟩
   simpa using this))
  clear hk hh;have t0:=nb_lit tn0;have t1:=nb_lit tn1;have t2:=nb_lit tn2;have t3:=nb_lit tn3;have t4:=nb_lit tn4;have t5:=nb_lit tn5;have t6:=nb_lit tn6;have t7:=nb_lit tn7;have t8:=nb_lit tn8;have t9:=nb_lit tn9;have t10:=nb_lit tn10;have t11:=nb_lit tn11;have t12:=nb_lit tn12;have t13:=nb_lit tn13;have t14:=nb_lit tn14;have t15:=nb_lit tn15;have t16:=nb_lit tn16;have t17:=nb_lit tn17;have t18:=nb_lit tn18;have t19:=nb_lit tn19;have t20:=nb_lit tn20;have t21:=nb_lit tn21;have t22:=nb_lit tn22;have t23:=nb_lit tn23;have t24:=nb_lit tn24;clear tn0 tn1 tn2 tn3 tn4 tn5 tn6 tn7 tn8 tn9 tn10 tn11 tn12 tn13 tn14 tn15 tn16 tn17 tn18 tn19 tn20 tn21 tn22 tn23 tn24;go_enter Tryz.func82,Tryz.ntmps82;go_wp2_with fail;refine HH.out.mono ?_;rintro e w1 ⟨rfl,rfl⟩;go_wp2_with fail;go_ret;exact ⟨rfl,rfl⟩
theorem whole_app (n:Nat):∀ a b:List UInt8,a.length <= n -> allWhole a = true -> allWhole b = true -> allWhole (a ++ b) = true:=by
 induction n with
 | zero =>
  intro a b hn ha hb;obtain rfl:=List.eq_nil_of_length_eq_zero (Nat.le_zero.1 hn);exact hb
 | succ n ih =>
  intro a b hn ha hb
  by_cases h0:a = []
  ·subst h0;exact hb
  ·by_cases h1:wholeN a = 0
   ·rw [allWhole_zero h1 h0] at ha;cases ha
   ·have h2:=wholeN_le a;have h3:=allWhole_pos h1;have h4:=whole_local a (a.drop (wholeN a) ++ b) (by omega);have hl:(a.take (wholeN a)).length = wholeN a:=by rw [List.length_take];omega
    have h5:=allWhole_app (p:=a.take (wholeN a)) (t:=a.drop (wholeN a) ++ b) (by rw [h4,hl]) (fun e=>by rw [e] at hl;simp at hl;omega);rw [<- List.append_assoc,List.take_append_drop] at h5;rw [h5];exact ih _ _ (by rw [List.length_drop];omega) (by rw [<- h3];exact ha) hb
def okA (e:List UInt8) (a:AtL):Bool:=(decide (e = wn_a) && decide (a = (wn_rel,wn_stranger))) || attrB e a.1
section
variable (void:List UInt8 -> Bool)
def pureT:Bool -> Tr -> Bool
  | _,.nil=>true
  | pt,.cons h K R=>(if h.name = [] then !pt && (!h.text.isEmpty && allWhole h.text) else decide (elemN h.name = 2) && (h.text.isEmpty && ((!(void h.name) || K.len == 0) && (h.attrs.all (okA h.name) && pureT false K)))) && pureT h.name.isEmpty R
def nodeB (pt:Bool) (h:NdH) (K:Tr):Bool:=if h.name = [] then !pt && (!h.text.isEmpty && allWhole h.text) else decide (elemN h.name = 2) && (h.text.isEmpty && ((!(void h.name) || K.len == 0) && (h.attrs.all (okA h.name) && pureT void false K)))
def lastW:Bool -> List (NdH × Tr) -> Bool
  | pt,[]=>pt
  | _,(h,_) :: r=>lastW h.name.isEmpty r
theorem pureT_of (pt:Bool) (h:NdH) (K:Tr) (r:List (NdH × Tr)):pureT void pt (Tr.of ((h,K) :: r)) = (nodeB void pt h K && pureT void h.name.isEmpty (Tr.of r)):=rfl
theorem pure_snoc (l:List (NdH × Tr)) (pt:Bool) (h:NdH) (K:Tr):pureT void pt (Tr.of (l ++ [(h,K)])) = (pureT void pt (Tr.of l) && nodeB void (lastW pt l) h K):=by
 induction l generalizing pt with
 | nil =>
  rw [List.nil_append,pureT_of];show (nodeB void pt h K && true) = (true && nodeB void pt h K)
  simp
 | cons q r ih =>
  obtain ⟨h2,K2⟩:=q;rw [List.cons_append,pureT_of,ih,pureT_of,Bool.and_assoc];rfl
theorem lastW_snoc (l:List (NdH × Tr)) (pt:Bool) (h:NdH) (K:Tr):lastW pt (l ++ [(h,K)]) = h.name.isEmpty:=by
 induction l generalizing pt with
 | nil=>rfl
 | cons q r ih=>exact ih _
structure InvW (s:WashL):Prop where
  pure:pureT void false (Tr.of s.1) = true
  last:lastW false s.1 = false
  whole:allWhole s.2 = true
theorem InvW.nil:InvW void ([],[]):=⟨rfl,rfl,allWhole_nil⟩
theorem InvW.done {s:WashL} (h:InvW void s):pureT void false (Tr.of (wEnd s)) = true:=by
 unfold wEnd
 by_cases h0:s.2 = []
 ·rw [if_pos h0];exact h.pure
 ·rw [if_neg h0,pure_snoc,h.pure,h.last];unfold nodeB;rw [if_pos rfl]
  have:s.2.isEmpty = false:=by
   cases e:s.2 with
   | nil=>exact absurd e h0
   | cons _ _=>rfl
  simp only [this,h.whole];decide
theorem InvW.txt {s:WashL} (h:InvW void s) {t:List UInt8} (ht:allWhole t = true):InvW void (wTxt s t):=⟨h.pure,h.last,whole_app _ _ _ (Nat.le_refl _) h.whole ht⟩
theorem InvW.add {s:WashL} (h:InvW void s) {hd:NdH} {K:Tr} (hn:hd.name ≠ []) (h1:elemN hd.name = 2) (h2:hd.text = []) (h3:void hd.name = true -> K = .nil) (h4:hd.attrs.all (okA hd.name) = true) (h5:pureT void false K = true):InvW void (wAdd s (hd,K)):=by
 refine ⟨?_,?_,allWhole_nil⟩
 ·show pureT void false (Tr.of (wEnd s ++ [(hd,K)])) = true
  rw [pure_snoc,h.done];unfold nodeB;rw [if_neg hn,h2,h4,h5,decide_eq_true h1]
  have:(!(void hd.name) || K.len == 0) = true:=by
   cases hv:void hd.name with
   | false=>rfl
   | true=>rw [h3 hv];rfl
  rw [this];rfl
 ·show lastW false (wEnd s ++ [(hd,K)]) = false
  rw [lastW_snoc];cases e:hd.name with
  | nil=>exact absurd e hn
  | cons _ _=>rfl
theorem elemA_ok (rem sty:Bool) (F:List FileL) (e:List UInt8) (l acc:List AtL) (h:acc.all (okA e) = true):(elemA rem sty F e acc l).all (okA e) = true:=by
 induction l generalizing acc with
 | nil=>exact h
 | cons a r ih =>
  unfold elemA;refine ih _ ?_;split
  ·exact h
  ·split
   ·rename_i v hv;rw [List.all_append,h]
    have:attrB e a.1 = true:=by
     unfold valL at hv
     by_cases hx:attrB e a.1 = true
     ·exact hx
     ·rw [if_neg hx] at hv;cases hv
    simp [okA,this]
   ·exact h
theorem linkA_ok {l:List AtL} (h:l.all (okA wn_a) = true):(linkA l).all (okA wn_a) = true:=by
 unfold linkA;split
 ·rw [List.all_append,h];simp [okA]
 ·exact h
theorem elemN_two {n:List UInt8} (h0:elemN n ≠ 0) (h1:elemN n ≠ 1):elemN n = 2:=by
 unfold elemN at *;split
 ·rfl
 ·rename_i h2;rw [if_neg h2] at h0 h1;split
  ·rename_i h3;rw [if_pos h3] at h0;exact absurd rfl h0
  ·rename_i h3;rw [if_neg h3] at h0 h1;split
   ·rename_i h4;rw [if_pos h4] at h0;exact absurd rfl h0
   ·rename_i h4;rw [if_neg h4] at h1;exact absurd rfl h1
theorem sign_whole (A:List AtL):allWhole (signT A) = true:=by
 unfold signT;refine whole_app 1 [91] _ (by decide) (by decide +kernel) ?_;exact whole_app _ _ [93] (Nat.le_refl _) (allWhole_valid _) (by decide +kernel)
theorem wash_inv (rem sty:Bool) (F:List FileL) (ha:void wn_a = false) (lk:Bool) (T:Tr) (s:WashL) (h:InvW void s):InvW void (washL void rem sty F lk T s):=by
 induction T generalizing lk s with
 | nil=>exact h
 | cons hd K R ihK ihR =>
  unfold washL;refine ihR _ _ ?_
  by_cases h0:hd.name = []
  ·rw [if_pos h0];exact h.txt void (allWhole_valid _)
  rw [if_neg h0]
  by_cases h1:elemN hd.name = 0
  ·rw [if_pos h1];exact h
  rw [if_neg h1]
  by_cases h2:elemN hd.name = 1 \/ (hd.name = wn_a /\ lk = true)
  ·rw [if_pos h2];exact ihK _ _ h
  rw [if_neg h2];have h3:=elemN_two h1 (fun e=>h2 (.inl e))
  by_cases h4:hd.name = wn_a
  ·rw [if_pos h4];refine h.add void ?_ ?_ rfl ?_ ?_ ((ihK _ _ (InvW.nil void)).done void)
   ·exact h0
   ·exact h3
   ·intro e;have e:void hd.name = true:=e;rw [h4,ha] at e;cases e
   ·show (linkA (elemA rem sty F hd.name [] hd.attrs)).all (okA hd.name) = true
    rw [h4];exact linkA_ok (elemA_ok rem sty F wn_a _ [] rfl)
  rw [if_neg h4]
  by_cases h5:hd.name = wn_img
  ·rw [if_pos h5];unfold wPic;split
   ·exact h
   ·split
    ·exact h.txt void (sign_whole _)
    ·split
     ·exact h.add void h0 h3 rfl (fun _=>rfl) (elemA_ok rem sty F _ _ [] rfl) rfl
     ·exact h
  rw [if_neg h5]
  by_cases h6:void hd.name = true
  ·rw [if_pos h6];exact h.add void h0 h3 rfl (fun _=>rfl) (elemA_ok rem sty F _ _ [] rfl) rfl
  ·rw [if_neg h6];exact h.add void h0 h3 rfl (fun e=>absurd e h6) (elemA_ok rem sty F _ _ [] rfl) ((ihK _ _ (InvW.nil void)).done void)
theorem wash_pure (rem sty:Bool) (F:List FileL) (ha:void wn_a = false) (T:Tr):pureT void false (washT void rem sty F T) = true:=(wash_inv void rem sty F ha false T _ (InvW.nil void)).done void
end
def dW (s:WashL):Nat:=max (Tr.of s.1).depth (if s.2 = [] then 0 else 1)
theorem depth_snoc (l:List (NdH × Tr)) (h:NdH) (K:Tr):(Tr.of (l ++ [(h,K)])).depth = max (Tr.of l).depth (1 + K.depth):=by
 induction l with
 | nil=>show max (1 + K.depth) 0 = max 0 (1 + K.depth);omega
 | cons q r ih =>
  obtain ⟨h2,K2⟩:=q;show max (1 + K2.depth) (Tr.of (r ++ [(h,K)])).depth = max (max (1 + K2.depth) (Tr.of r).depth) (1 + K.depth)
  rw [ih];omega
theorem depthW_end (s:WashL):(Tr.of (wEnd s)).depth <= dW s:=by
 unfold wEnd dW
 by_cases h:s.2 = []
 ·rw [if_pos h,if_pos h];omega
 ·rw [if_neg h,if_neg h,depth_snoc];show max _ (1 + 0) <= _;omega
theorem dW_add (s:WashL) (q:NdH × Tr):dW (wAdd s q) <= max (dW s) (1 + q.2.depth):=by
 have:=depthW_end s;unfold wAdd;show max (Tr.of (wEnd s ++ [(q.1,q.2)])).depth (if ([]:List UInt8) = [] then 0 else 1) <= _
 rw [depth_snoc,if_pos rfl];omega
theorem dW_txt (s:WashL) (t:List UInt8):dW (wTxt s t) <= max (dW s) 1:=by
 unfold dW wTxt;simp only;split <;> split <;> omega
theorem wash_depth (void:List UInt8 -> Bool) (rem sty:Bool) (F:List FileL) (lk:Bool) (T:Tr) (s:WashL):dW (washL void rem sty F lk T s) <= max (dW s) T.depth:=by
 induction T generalizing lk s with
 | nil=>show dW s <= max (dW s) 0;omega
 | cons hd K R ihK ihR =>
  unfold washL;refine Nat.le_trans (ihR _ _) ?_;show max _ R.depth <= max (dW s) (max (1 + K.depth) R.depth)
  have key:∀ {s':WashL},dW s' <= max (dW s) (1 + K.depth) -> max (dW s') R.depth <= max (dW s) (max (1 + K.depth) R.depth):=fun {s'} h=>by omega
  have hK:∀ b,(Tr.of (wEnd (washL void rem sty F b K ([],[])))).depth <= K.depth:=fun b=>by
   have h1:=depthW_end (washL void rem sty F b K ([],[]));have h2:=ihK b ([],[]);have h3:dW ([],[]) = 0:=rfl;omega
  have htx:∀ t,dW (wTxt s t) <= max (dW s) (1 + K.depth):=fun t=>by have:=dW_txt s t;omega
  have hel:∀ h,dW (wAdd s (h,.nil)) <= max (dW s) (1 + K.depth):=fun h=>by
   have:=dW_add s (h,.nil);have h2:(Tr.nil).depth = 0:=rfl;simp only [h2] at this;omega
  refine key ?_;split
  ·exact htx _
  split
  ·omega
  split
  ·have:=ihK lk s;omega
  split
  ·have:=dW_add s (linkW rem sty F hd,Tr.of (wEnd (washL void rem sty F true K ([],[]))));have:=hK true;simp only at *;omega
  split
  ·unfold wPic;split
   ·omega
   ·split
    ·exact htx _
    ·split
     ·exact hel _
     ·omega
  split
  ·exact hel _
  ·have:=dW_add s (elemW rem sty F hd,Tr.of (wEnd (washL void rem sty F lk K ([],[]))));have:=hK lk;simp only at *;omega
theorem washT_depth (void:List UInt8 -> Bool) (rem sty:Bool) (F:List FileL) (T:Tr):(washT void rem sty F T).depth <= T.depth:=by
 have h1:=depthW_end (washL void rem sty F false T ([],[]));have h2:=wash_depth void rem sty F false T ([],[]);have h3:dW ([],[]) = 0:=rfl;unfold washT;omega
def voidW (n:List UInt8):Bool:=voidL.contains n
def LinkOK (b:Nat) (r s q:Bool) (A:Option Addr) (F:List FileL) (c:Nat):Prop :=
  ∀ (w:World) (hd:NdH) (av kv:Value) (K:Tr),WshE b r s q false A F c w -> AttrsIn w av hd.attrs -> NodesIn w kv K -> okW hd = true -> K.all okW = true -> K.count <= 100000 ->
    Calls Tryz.prog 60 #[.pointer (some ⟨b,0,none⟩),.agg #[.string (str hd.name),av,.string (str hd.text),kv]] w fun e w' =>
      ∃ (v kv':Value) (D:Nat -> Prop),e = .returned (.agg #[.string (str hd.name),v,.string ⟨#[]⟩,kv']) /\ NewC D w.heap.size w' /\ AttrsC D w' v (linkA (elemA r s F hd.name [] hd.attrs)) /\ NodesC D w' kv' (Tr.of (wEnd (washL voidW r s F true K ([],[])))) /\ Below w.heap.size w w'
def WashStep (r s:Bool) (F:List FileL) (lk:Bool) (p:PartW) (rest:List PartW) (hd:NdH) (kv:Value) (K:Tr) (st':List PartW):Prop :=
  (∃ p',st' = p' :: rest /\ StepP p p' (nodeWs voidW r s F lk hd K p.toW)) \/
  (∃ p',st' = p' :: rest /\ p' = { p with left:=p.left ++ [(kv,K)],lv:=p'.lv } /\ nodeWs voidW r s F lk hd K p.toW = washL voidW r s F lk K p.toW) \/
  (∃ av lv,st' = ⟨hd.name,elemA r s F hd.name [] hd.attrs,av,[],.slice none 0 0,[],.slice none 0 0,[(kv,K)],lv⟩ :: p :: rest /\ nodeWs voidW r s F lk hd K p.toW = wAdd p.toW (elemW r s F hd,Tr.of (wEnd (washL voidW r s F lk K ([],[])))))
theorem step_wpart {ops:Array Oper} {o:Oper} {a:Act} {w:World} {K:Act -> World -> Prop} {Q:Exit -> Act -> World -> Prop} {E:Prop} (hgd:o.guard = none) (s x:Operand)
  (ho:o.op = .call { callee:=.builtin .append,args:=#[s,x],argTypes:=#[85,85] })
  (B:Nat) (v:Value) (st:List PartW) (hs:a.eval s = v) (hb:w.ownsRow B 84 6 v st.length (washVals st.reverse)) (hB:B <= w.heap.size) (ad:Addr) (nm:List UInt8) (ats:List AtL) (A:Option Addr) (m c:Nat) (L:Option Addr) (q:Value × Tr)
  (hx:a.eval x = .slice (some ad) 1 1) (hc:∀ j u,([Value.string (str nm),.slice A m c,.string ⟨#[]⟩,.slice none 0 0,.slice none 0 0,.slice L 1 1]:List Value)[j]? = some u -> w.cell? (ad.add j) = some u)
  (hlen:st.length + 1 <= 1073741824)
  (h:∀ v' w',w'.ownsRow B 84 6 v' (st.length + 1) (washVals st.reverse ++ washVals [⟨nm,ats,.slice A m c,[],.slice none 0 0,[],.slice none 0 0,[q],.slice L 1 1⟩]) -> w.grownBy w' v.ownBlock -> K (a.put o.dst v') w') :
  if Region.wanted o (yielded ops a.tmps) = true then Oper.wp Tryz.prog o a w K Q else E:=by
 have hw:Region.wanted o (yielded ops a.tmps) = true:=by simp [Region.wanted,hgd]
 rw [if_pos hw];obtain ⟨i0,hi,hz0,hz1,hz2⟩:=info_parts info_wpart;refine wp_append_own _ s x 85 ho B 84 i0 _ 6 128 Tryz.underlying85 hi hz0 hz1 hz2 rfl (by decide) v st.length (washVals st.reverse) hs hb ad 1 1 (washVals [⟨nm,ats,.slice A m c,[],.slice none 0 0,[],.slice none 0 0,[q],.slice L 1 1⟩]) hx rfl ?_ ?_ (by unfold maxLen;omega) (by omega) hB ?_
 ·intro j u hj;exact hc j u hj
 ·intro u hu;simp [washVals] at hu;rcases hu with rfl | rfl | rfl | rfl | rfl | rfl <;> rfl
 ·intro v' w' ho' hg _;exact h v' w' ho' hg
theorem wpart_row (w:World) (o:Obj) (c0 c1 c2 c3 c4 c5:Value) (j:Nat) (u:Value) (hj:([c0,c1,c2,c3,c4,c5]:List Value)[j]? = some u):((w.alloc o).alloc (.cells #[c0,c1,c2,c3,c4,c5] 84)).cell? ((⟨w.heap.size + 1,0,none⟩:Addr).add j) = some u:=by
 have h:((w.alloc o).alloc (.cells #[c0,c1,c2,c3,c4,c5] 84)).heap[w.heap.size + 1]? = some (.cells #[c0,c1,c2,c3,c4,c5] 84 (0,0)):=by
  rw [<- World.size_alloc w o];exact heap_alloc_new _ _
 rw [Addr.add_lit,Lib.cell_of_heap h,Nat.zero_add];rw [<- List.getElem?_toArray] at hj;exact hj
theorem wpart_row1 (w:World) (c0 c1 c2 c3 c4 c5:Value) (j:Nat) (u:Value) (hj:([c0,c1,c2,c3,c4,c5]:List Value)[j]? = some u):(w.alloc (.cells #[c0,c1,c2,c3,c4,c5] 84)).cell? ((⟨w.heap.size,0,none⟩:Addr).add j) = some u:=by
 have h:(w.alloc (.cells #[c0,c1,c2,c3,c4,c5] 84)).heap[w.heap.size]? = some (.cells #[c0,c1,c2,c3,c4,c5] 84 (0,0)):=heap_alloc_new _ _;rw [Addr.add_lit,Lib.cell_of_heap h,Nat.zero_add];rw [<- List.getElem?_toArray] at hj;exact hj
theorem WS.laid {C:Nat -> Prop} {B:Nat} {X:List KidV} {r:Value} {st:List PartW} {W0 w:World} (h:WS C B X r st W0 w) (kv:Value) (ob:Obj) (hne:∀ e,kv.oneCell' = e -> e = true) :
  WS C B X r st W0 ((w.alloc (.cells #[kv] 25)).alloc ob) /\ ((w.alloc (.cells #[kv] 25)).alloc ob).ownsRow B 25 1 (.slice (some ⟨w.heap.size,0,none⟩) 1 1) 1 [kv] /\ (∀ p ∈ st,p.lv.ownBlock ≠ (Value.slice (some ⟨w.heap.size,0,none⟩) 1 1).ownBlock) /\ Below w.heap.size w ((w.alloc (.cells #[kv] 25)).alloc ob):=by
 have h1:=below_one w (.cells #[kv] 25);have h2:=below_one (w.alloc (.cells #[kv] 25)) ob;have hr:=World.ownsRow_lit (base:=B) (e:=25) (size:=1) w #[kv] 1 h.ps.size (by unfold maxLen;decide) rfl;refine ⟨(h.kept h1).kept h2,hr.kept (grown_none h2) (by cases hv:(Value.slice (some ⟨w.heap.size,0,none⟩) 1 1).ownBlock <;> simp),fun p hp e=>?_,wash_two h1 h2⟩;exact absurd ((h.ps.lefts p hp).lt _ e).2 (Nat.lt_irrefl _)
theorem washW_any (C : Nat → Prop) (X : List KidV) (B g cap : Nat) (p : PartW) (rest : List PartW) (W0 w : World) (h : WS C B X (.slice (some ⟨g, 0, none⟩) (rest.length + 1) cap) (p :: rest) W0 w)
    (b : Nat) (r s q lk : Bool) (A : Option Addr) (F : List FileL) (c : Nat) (hE0 : WshE b r s q lk A F c W0) (hLK : lk = false → LinkOK b r s q A F c)
    (hd : NdH) (av kv : Value) (K : Tr) (ha0 : AttrsIn W0 av hd.attrs) (hk0 : NodesIn W0 kv K) (hok : okW hd = true) (hKok : K.all okW = true) (hKc : K.count ≤ 100000)
    (hl : rest.length ≤ 1000000) (hks : p.kids.length ≤ 1000000) (hlf : p.left.length ≤ 1000000) (ht : p.tail.length ≤ 70000000000000) :
    Calls Tryz.prog 40 #[.pointer (some ⟨b, 0, none⟩), .slice (some ⟨g, 0, none⟩) (rest.length + 1) cap, .agg #[.string (str hd.name), av, .string (str hd.text), kv]] w fun e w' =>
      ∃ C' r' st', e = .returned r' ∧ WS C' B X r' st' W0 w' ∧ WashStep r s F lk p rest hd kv K st' := by
  obtain ⟨Ak, ck, hkv⟩ := NodesC.form hk0
  subst hkv
  obtain ⟨Aa, ca, rfl⟩ := ha0.form
  obtain ⟨nm, hnm⟩ : ∃ nm, nm = str hd.name := ⟨_, rfl⟩
  obtain ⟨tx, htx⟩ : ∃ tx, tx = str hd.text := ⟨_, rfl⟩
  obtain ⟨W, hW⟩ : ∃ W, W = w.alloc (.cells #[.string nm, .slice Aa hd.attrs.length ca, .string tx, .slice Ak K.len ck] 36) := ⟨_, rfl⟩
  have hbw : Below w.heap.size w W := by rw [hW]; exact below_one w _
  have hs := h.kept hbw
  have hb0 := hs.ps.below.mono hs.ps.base
  have hkk : W.heap[w.heap.size]? = some (.cells #[.string nm, .slice Aa hd.attrs.length ca, .string tx, .slice Ak K.len ck] 36 (0, 0)) := by rw [hW]; exact heap_alloc_new w _
  obtain ⟨k, hkz⟩ : ∃ k, k = w.heap.size := ⟨_, rfl⟩
  rw [← hnm, ← htx]
  rw [← hkz] at hkk
  have HC : Hid (∀ w', Below W.heap.size W w' → WshE b r s q lk A F c w' ∧ AttrsIn w' (.slice Aa hd.attrs.length ca) hd.attrs ∧ NodesIn w' (.slice Ak K.len ck) K ∧ w'.cell? ⟨k, 0, none⟩ = some (.string nm) ∧ w'.cell? ⟨k, 1, none⟩ = some (.slice Aa hd.attrs.length ca) ∧ w'.cell? ⟨k, 2, none⟩ = some (.string tx) ∧ w'.cell? ⟨k, 3, none⟩ = some (.slice Ak K.len ck) ∧ w'.cell? ⟨b, 4, none⟩ = some (.bool lk)) := hide fun w' hb' => by
    have hE := (hE0.kept hb0).kept hb'
    have hk2 := (hb'.block k (lt_of_block hkk)).trans hkk
    have hwb := hE.1
    unfold WshB at hwb
    exact ⟨hE, (ha0.kept hb0).kept hb', (NodesIn.kept hk0 hb0).kept hb', by rw [Lib.cell_of_heap hk2]; rfl, by rw [Lib.cell_of_heap hk2]; rfl, by rw [Lib.cell_of_heap hk2]; rfl, by rw [Lib.cell_of_heap hk2]; rfl, by rw [Lib.cell_of_heap hwb]; rfl⟩
  have hnn : nm.data.toList = hd.name := by rw [hnm, str_toList]
  have HEN : Hid (∀ w', Calls Tryz.prog 12 #[.string nm] w' fun e w'' => e = .returned (.int .i64 ((elemN hd.name : Nat) : Int)) ∧ w' = w'') := hide fun w' => by
    have := element_any nm w'
    rw [hnn] at this; exact this
  have HEL : Hid (∀ w', Below W.heap.size W w' → Calls Tryz.prog 62 #[.pointer (some ⟨b, 0, none⟩), .agg #[.string nm, .slice Aa hd.attrs.length ca, .string tx, .slice Ak K.len ck]] w' fun e w'' => ∃ v, e = .returned (.agg #[.string nm, v, .string ⟨#[]⟩, .slice none 0 0]) ∧ w''.ownsRow w'.heap.size 47 2 v (elemA r s F hd.name [] hd.attrs).length (atVals (elemA r s F hd.name [] hd.attrs)) ∧ Below w'.heap.size w' w'') := hide fun w' hb' => by
    have := elem_at (HC.out w' hb').1 hd _ (.slice Ak K.len ck) (HC.out w' hb').2.1 hok ⟨_, _, _, rfl⟩ tx
    rw [← hnm] at this
    exact this
  have HSW := hide hs
  have HW := hide hW
  have HKZ := hide hkz
  have HL := hide (And.intro hl (And.intro hks (And.intro hlf ht)))
  have HNM := hide hnm
  have HTX := hide htx
  have HR := hide (Below.refl W.heap.size W)
  have HE0 := hide (And.intro hE0 (And.intro ha0 (And.intro hk0 (And.intro hok (And.intro hKok hKc)))))
  have HLK := hide hLK
  have hcap : rest.length + 1 ≤ cap := by
    obtain ⟨g0, c0, e, h1, _⟩ := h.form (by simp)
    injection e with _ _ e
    rw [← e] at h1; simpa using h1
  have HCAP := hide hcap
  have HKG : Hid (k ≠ g) := hide (by
    obtain ⟨g0, c0, e, _, _, _, h6⟩ := h.form (by simp)
    injection e with e _ _
    injection e with e
    injection e with e
    omega)
  obtain ⟨c0, c1, c2, c3, c4, c5, c6, c7⟩ := (HC.out W HR.out)
  have tw : wrap64 (rest.length : Int) = (rest.length : Int) := by unfold wrap64; omega
  have t1 : (0 : Int) ≤ (rest.length : Int) := by omega
  have t2 : (rest.length : Int) < (rest.length : Int) + 1 := by omega
  clear h hE0 ha0 hk0 hok hKok hKc hLK hbw hs hb0 hkk hW hkz hl hks hlf ht htx c0 c1 c2 hcap hnm
  by_cases h0 : hd.name = []
  · have q0 : nm.toList.isEmpty = true := by rw [bytes_list, hnn, h0]; rfl
    have HG : Hid (nodeWs voidW r s F lk hd K p.toW = wTxt p.toW (validL hd.text)) := hide (by unfold nodeWs; rw [if_pos h0])
    have hv : Calls Tryz.prog 58 #[.string tx] W fun e w'' => e = .returned (.string (str (validL hd.text))) ∧ Below W.heap.size W w'' := by
      have := valid_any tx W (by rw [HTX.out, str_size]; have := (okW_few HE0.out.2.2.2.1).2; omega)
      rw [HTX.out, str_toList, ← HTX.out] at this
      exact this
    have HV := hide hv
    obtain ⟨Y, hY⟩ : ∃ Y, Y = str (validL hd.text) := ⟨_, rfl⟩
    rw [← hY] at HV
    have HY := hide hY
    have HYL : Hid ((validL hd.text).length ≤ 3000010) := hide (by have := validL_length hd.text; have := (okW_few HE0.out.2.2.2.1).2; omega)
    clear h0 hnn hv HEL HLK hY
    go_enter Tryz.func40, Tryz.ntmps40
    go_wp2_with fail
    rw [← HW.out, ← HKZ.out]
    go_wp2_with fail
    refine (HEN.out _).mono ?_
    rintro e w1 ⟨rfl, rfl⟩
    go_wp2_with fail
    refine HV.out.mono ?_
    rintro e w2 ⟨rfl, hb2⟩
    have HT := hide (addTextW_any C X B g cap p rest W0 w2 (HSW.out.kept hb2) Y (by rw [HY.out, str_size]; have := HYL.out; have := HL.out.2.2.2; omega))
    clear hb2
    go_wp2_with fail
    refine HT.out.mono ?_
    rintro e w3 ⟨rfl, p', hb3, hp3⟩
    have HB3 := hide hb3
    have HP3 := hide hp3
    clear hb3 hp3
    go_wp2_with fail
    go_ret
    refine ⟨C, _, _, rfl, HB3.out, .inl ⟨p', rfl, ?_⟩⟩
    rw [HG.out]
    have := HP3.out
    rw [HY.out, str_toList] at this
    exact stepP_txt this HYL.out
  have q0 : nm.toList.isEmpty = false := by
    rw [bytes_list, hnn]
    cases e : hd.name with
    | nil => exact absurd e h0
    | cons _ _ => rfl
  by_cases hz : elemN hd.name = 0
  · have HG : Hid (nodeWs voidW r s F lk hd K p.toW = p.toW) := hide (by unfold nodeWs; rw [if_neg h0, if_pos hz])
    rw [hz, show (((0 : Nat) : Int)) = 0 from rfl] at HEN
    clear h0 hnn hz HEL HLK
    go_enter Tryz.func40, Tryz.ntmps40
    go_wp2_with fail
    rw [← HW.out, ← HKZ.out]
    go_wp2_with fail
    refine (HEN.out _).mono ?_
    rintro e w1 ⟨rfl, rfl⟩
    go_wp2_with fail
    go_ret
    refine ⟨C, _, _, rfl, HSW.out, .inl ⟨p, rfl, ?_⟩⟩
    rw [HG.out]
    exact stepP_refl p
  by_cases ho : elemN hd.name = 1
  · have HG : Hid (nodeWs voidW r s F lk hd K p.toW = washL voidW r s F lk K p.toW) := hide (by unfold nodeWs; rw [if_neg h0, if_neg hz, if_pos (.inl ho)])
    rw [ho, show (((1 : Nat) : Int)) = 1 from rfl] at HEN
    have HO := hide (openW_any C X B g cap p rest W0 W HSW.out Ak K.len ck K HE0.out.2.2.1 HL.out.2.2.1)
    clear h0 hnn hz ho HEL HLK
    go_enter Tryz.func40, Tryz.ntmps40
    go_wp2_with fail
    rw [← HW.out, ← HKZ.out]
    go_wp2_with fail
    refine (HEN.out _).mono ?_
    rintro e w1 ⟨rfl, rfl⟩
    go_wp2_with fail
    refine HO.out.mono ?_
    rintro e w2 ⟨rfl, p', hb2, hp2⟩
    have HB2 := hide hb2
    have HP2 := hide hp2
    clear hb2 hp2
    go_wp2_with fail
    go_ret
    exact ⟨C, _, _, rfl, HB2.out, .inr (.inl ⟨p', rfl, HP2.out, HG.out⟩)⟩
  have htwo := elemN_two hz ho
  rw [htwo, show (((2 : Nat) : Int)) = 2 from rfl] at HEN
  by_cases ha : hd.name = wn_a
  · have x1 : (nm.toList == [97]) = true := by rw [bytes_list, hnn, ha]; rfl
    cases lk with
    | true =>
      have HG : Hid (nodeWs voidW r s F true hd K p.toW = washL voidW r s F true K p.toW) := hide (by unfold nodeWs; rw [if_neg h0, if_neg hz, if_pos (.inr ⟨ha, rfl⟩)])
      have HO := hide (openW_any C X B g cap p rest W0 W HSW.out Ak K.len ck K HE0.out.2.2.1 HL.out.2.2.1)
      clear h0 hnn hz ho ha htwo HEL HLK
      go_enter Tryz.func40, Tryz.ntmps40
      go_wp2_with fail
      rw [← HW.out, ← HKZ.out]
      go_wp2_with fail
      refine (HEN.out _).mono ?_
      rintro e w1 ⟨rfl, rfl⟩
      go_wp2_with fail
      refine HO.out.mono ?_
      rintro e w2 ⟨rfl, p', hb2, hp2⟩
      have HB2 := hide hb2
      have HP2 := hide hp2
      clear hb2 hp2
      go_wp2_with fail
      go_ret
      exact ⟨C, _, _, rfl, HB2.out, .inr (.inl ⟨p', rfl, HP2.out, HG.out⟩)⟩
    | false =>
      have HG : Hid (nodeWs voidW r s F false hd K p.toW = wAdd p.toW (linkW r s F hd, Tr.of (wEnd (washL voidW r s F true K ([], []))))) := hide (by unfold nodeWs; rw [if_neg h0, if_neg hz, if_neg (fun h => h.elim ho (fun e => absurd e.2 (by decide))), if_pos ha])
      have hlk := HLK.out rfl W hd _ _ K (HC.out W HR.out).1 (HC.out W HR.out).2.1 (HC.out W HR.out).2.2.1 HE0.out.2.2.2.1 HE0.out.2.2.2.2.1 HE0.out.2.2.2.2.2
      rw [← HNM.out, ← HTX.out] at hlk
      have HLC := hide hlk
      clear h0 hnn hz ho ha htwo HEL HLK hlk
      go_enter Tryz.func40, Tryz.ntmps40
      go_wp2_with fail
      rw [← HW.out, ← HKZ.out]
      go_wp2_with fail
      refine (HEN.out _).mono ?_
      rintro e w1 ⟨rfl, rfl⟩
      go_wp2_with fail
      refine HLC.out.mono ?_
      rintro e w2 ⟨v, kv2, D, rfl, hD, hA2, hK2, hb2⟩
      obtain ⟨VA, VC, rfl⟩ := hA2.1.form
      obtain ⟨KA, KC, hkk⟩ := NodesC.form hK2
      subst hkk
      have hs2 := HSW.out.news hb2 hD
      have hadd := addW_any _ X B g cap p rest W0 w2 hs2 (linkW r s F hd) _ _ _ (hA2.mono (fun _ _ => rfl) (fun _ x => .inr x)) (hK2.mono (fun _ _ => rfl) (fun _ x => .inr x)) (by have := HL.out.1; omega) HL.out.2.1 (by have := HL.out.2.2.2; omega)
      rw [show str (linkW r s F hd).name = nm from HNM.out.symm, show str (linkW r s F hd).text = (⟨#[]⟩ : ByteArray) from rfl] at hadd
      have HADD := hide hadd
      clear hD hA2 hK2 hb2 hs2 hadd
      go_wp2_with fail
      refine HADD.out.mono ?_
      rintro e w6 ⟨rfl, C6, p6, hb6, hp6⟩
      have HB6 := hide hb6
      have HP6 := hide hp6
      clear hb6 hp6
      go_wp2_with fail
      go_ret
      refine ⟨C6, _, _, rfl, HB6.out, .inl ⟨p6, rfl, ?_⟩⟩
      rw [HG.out]
      exact HP6.out.step
  have x1 : (nm.toList == [97]) = false := beq_eq_false_iff_ne.2 (by rw [bytes_list, hnn]; exact ha)
  have hno : ¬ (elemN hd.name = 1 ∨ (hd.name = wn_a ∧ lk = true)) := fun h => h.elim ho (fun e => ha e.1)
  by_cases hi : hd.name = wn_img
  · have x2 : (nm.toList == [105, 109, 103]) = true := by rw [bytes_list, hnn, hi]; rfl
    have HG : Hid (nodeWs voidW r s F lk hd K p.toW = wPic r s F hd p.toW) := hide (by unfold nodeWs; rw [if_neg h0, if_neg hz, if_neg hno, if_neg ha, if_pos hi])
    have hpc := picture_any C X B g cap p rest W0 W HSW.out b r s q lk A F c HE0.out.1 hd _ (.slice Ak K.len ck) HE0.out.2.1 HE0.out.2.2.2.1 ⟨_, _, _, rfl⟩ (by have := HL.out.1; omega) HL.out.2.1 HL.out.2.2.2
    rw [← HNM.out, ← HTX.out] at hpc
    have HPC := hide hpc
    clear h0 hnn hz ho ha hi hno htwo HEL HLK hpc
    go_enter Tryz.func40, Tryz.ntmps40
    go_wp2_with fail
    rw [← HW.out, ← HKZ.out]
    go_wp2_with fail
    refine (HEN.out _).mono ?_
    rintro e w1 ⟨rfl, rfl⟩
    go_wp2_with fail
    refine HPC.out.mono ?_
    rintro e w2 ⟨rfl, C2, p2, hb2, hp2⟩
    have HB2 := hide hb2
    have HP2 := hide hp2
    clear hb2 hp2
    go_wp2_with fail
    go_ret
    refine ⟨C2, _, _, rfl, HB2.out, .inl ⟨p2, rfl, ?_⟩⟩
    rw [HG.out]
    exact HP2.out
  have x2 : (nm.toList == [105, 109, 103]) = false := beq_eq_false_iff_ne.2 (by rw [bytes_list, hnn]; exact hi)
  have HVD : Hid (∀ w', Calls Tryz.prog 18 #[.string nm] w' fun e w'' => e = .returned (.bool (voidW hd.name)) ∧ w' = w'') := hide (fun w' => by
    have := void14_any nm w'
    rw [hnn] at this; exact this)
  cases hvd : voidW hd.name with
  | true =>
    have HG : Hid (nodeWs voidW r s F lk hd K p.toW = wAdd p.toW (elemW r s F hd, .nil)) := hide (by unfold nodeWs; rw [if_neg h0, if_neg hz, if_neg hno, if_neg ha, if_neg hi, if_pos hvd])
    rw [hvd] at HVD
    clear h0 hnn hz ho ha hi hno hvd htwo HLK
    go_enter Tryz.func40, Tryz.ntmps40
    go_wp2_with fail
    rw [← HW.out, ← HKZ.out]
    go_wp2_with fail
    refine (HEN.out _).mono ?_
    rintro e w1 ⟨rfl, rfl⟩
    go_wp2_with fail
    refine (HVD.out _).mono ?_
    rintro e w1 ⟨rfl, rfl⟩
    go_wp2_with fail
    refine (HEL.out _ HR.out).mono ?_
    rintro e w3 ⟨v, rfl, ho3, hb3⟩
    obtain ⟨VA, VC, hv⟩ := own_any ho3
    subst hv
    obtain ⟨hs3, hat3⟩ := HSW.out.elem hb3 ho3
    have hadd := addW_any _ X B g cap p rest W0 w3 hs3 (elemW r s F hd) .nil _ (.slice none 0 0) hat3 (.inl ⟨rfl, rfl⟩) (by have := HL.out.1; omega) HL.out.2.1 (by have := HL.out.2.2.2; omega)
    rw [show str (elemW r s F hd).name = nm from HNM.out.symm, show str (elemW r s F hd).text = (⟨#[]⟩ : ByteArray) from rfl] at hadd
    have HADD := hide hadd
    clear ho3 hb3 hs3 hat3 hadd
    go_wp2_with fail
    refine HADD.out.mono ?_
    rintro e w6 ⟨rfl, C6, p6, hb6, hp6⟩
    have HB6 := hide hb6
    have HP6 := hide hp6
    clear hb6 hp6
    go_wp2_with fail
    go_ret
    refine ⟨C6, _, _, rfl, HB6.out, .inl ⟨p6, rfl, ?_⟩⟩
    rw [HG.out]
    exact HP6.out.step
  | false =>
    have HG : Hid (nodeWs voidW r s F lk hd K p.toW = wAdd p.toW (elemW r s F hd, Tr.of (wEnd (washL voidW r s F lk K ([], []))))) := hide (by unfold nodeWs; rw [if_neg h0, if_neg hz, if_neg hno, if_neg ha, if_neg hi, if_neg (by rw [hvd]; decide)])
    rw [hvd] at HVD
    have HRA : Hid (Below W.heap.size W (W.alloc (.cells #[.slice Ak K.len ck] 25)).drew) := hide (below_one W _).drew
    have HLV : Hid (∀ w3, Below (W.alloc (.cells #[.slice Ak K.len ck] 25)).drew.heap.size (W.alloc (.cells #[.slice Ak K.len ck] 25)).drew w3 → w3.ownsRow B 25 1 (.slice (some ⟨W.heap.size, 0, none⟩) 1 1) 1 [.slice Ak K.len ck]) := hide (fun w3 hb => by
      have hr := World.ownsRow_lit (base := B) (e := 25) (size := 1) W #[.slice Ak K.len ck] 1 HSW.out.ps.size (by unfold maxLen; decide) rfl
      exact hr.kept (grown_none (((Below.refl _ _).drew).trans hb)) (by cases hv : (Value.slice (some ⟨W.heap.size, 0, none⟩) 1 1).ownBlock <;> simp))
    have HLN : Hid (∀ x ∈ p :: rest, x.lv.ownBlock ≠ (Value.slice (some ⟨W.heap.size, 0, none⟩) 1 1).ownBlock) := hide (fun x hx e => absurd ((HSW.out.ps.lefts x hx).lt _ e).2 (Nat.lt_irrefl _))
    clear h0 hnn hz ho ha hi hno hvd htwo HLK
    go_enter Tryz.func40, Tryz.ntmps40
    go_wp2_with fail
    rw [← HW.out, ← HKZ.out]
    go_wp2_with fail
    refine (HEN.out _).mono ?_
    rintro e w1 ⟨rfl, rfl⟩
    go_wp2_with fail
    refine (HVD.out _).mono ?_
    rintro e w1 ⟨rfl, rfl⟩
    clear x1 x2 q0 t1 t2 tw c7
    go_wp2_with fail
    go_region_held_law (fun w' => w'.cell? ⟨k, 0, none⟩ = some (.string nm) ∧ w'.cell? ⟨k, 1, none⟩ = some (.slice Aa hd.attrs.length ca) ∧ w'.cell? ⟨k, 2, none⟩ = some (.string tx) ∧ w'.cell? ⟨k, 3, none⟩ = some (.slice Ak K.len ck))
      (refine ⟨?_, ?_, ?_, ?_⟩ <;> first | (with_reducible assumption) | go_keep)
      (first
      | (go_at_call 62; (with_reducible refine (HEL.out _ HR.out.drew).mono ?_); rintro e w3 ⟨v, rfl, ho3, hb3⟩
         obtain ⟨VA, VC, hv⟩ := own_any ho3
         subst hv
         have hbx : Below W.heap.size W w3 := HR.out.drew.trans (hb3.mono HR.out.drew.size)
         have hs3 := (HSW.out.elem (w' := w3) hbx (ownsRow_down ho3 (Nat.le_refl _)))
         have HBX := hide hbx
         have HS3 := hide hs3.1
         have HAT3 := hide hs3.2
         obtain ⟨d0, d1, d2, d3, d4, d5, d6, d7⟩ := HC.out w3 hbx
         clear ho3 hb3 hbx hs3 d0 d1 d2 d7)
      | (go_at_call 62; (with_reducible refine (HEL.out _ HRA.out).mono ?_); rintro e w3 ⟨v, rfl, ho3, hb3⟩
         obtain ⟨VA, VC, hv⟩ := own_any ho3
         subst hv
         have hbx : Below W.heap.size W w3 := HRA.out.trans (hb3.mono HRA.out.size)
         have hs3 := (HSW.out.elem (w' := w3) hbx (ownsRow_down ho3 HRA.out.size))
         have HBX := hide hbx
         have HU3 := hide hs3.1
         have HAT3 := hide hs3.2
         have HLV3 := hide (HLV.out w3 hb3)
         obtain ⟨d0, d1, d2, d3, d4, d5, d6, d7⟩ := HC.out w3 hbx
         clear ho3 hb3 hbx hs3 d0 d1 d2 d7)
      | (refine step_wpart rfl _ _ rfl B (.slice (some ⟨g, 0, none⟩) (rest.length + 1) cap) (p :: rest) rfl ((HS3.out.laid (.slice Ak K.len ck) _ (fun _ e => e.symm.trans rfl)).1.row) ((HS3.out.laid (.slice Ak K.len ck) _ (fun _ e => e.symm.trans rfl)).1.ps.size) ⟨w3.heap.size + 1, 0, none⟩ hd.name (elemA r s F hd.name [] hd.attrs) VA _ VC (some ⟨w3.heap.size, 0, none⟩) (.slice Ak K.len ck, K) rfl (fun j u hj => wpart_row w3 _ _ _ _ _ _ _ j u (by rw [HNM.out]; exact hj)) (by have := HL.out.1; simp only [List.length_cons]; omega) ?_
         intro v' w5 ho5 hg5
         obtain ⟨l1, l2, l3, l4⟩ := HS3.out.laid (.slice Ak K.len ck) (.cells #[.string nm, .slice VA (elemA r s F hd.name [] hd.attrs).length VC, .string ⟨#[]⟩, .slice none 0 0, .slice none 0 0, .slice (some ⟨w3.heap.size, 0, none⟩) 1 1] 84) (fun _ e => e.symm.trans rfl)
         have HEND : Hid (∃ C' lv, WS C' B X v' (⟨hd.name, elemA r s F hd.name [] hd.attrs, .slice VA (elemA r s F hd.name [] hd.attrs).length VC, [], .slice none 0 0, [], .slice none 0 0, [(.slice Ak K.len ck, K)], lv⟩ :: p :: rest) W0 w5) := hide ⟨_, _, l1.pushPart hd.name (elemA r s F hd.name [] hd.attrs) _ _ _ K (HAT3.out.mono (fun x hx => l4.block x (HS3.out.ps.typ x hx).2.1) (fun _ x => x)) l2 l3 HE0.out.2.2.1 ho5 hg5⟩
         obtain ⟨f0, f1, f2, f3, f4, f5, f6, f7⟩ := HC.out _ (HBX.out.trans (l4.mono HBX.out.size))
         clear l1 l2 l3 l4
         have hk5 := hg5.block k (World.block_lt_of_cell? _ _ f3) (fun e => HKG.out (by injection e))
         have g3 := (World.cell?_of_block (a := ⟨k, 0, none⟩) hk5).trans f3
         have g4 := (World.cell?_of_block (a := ⟨k, 1, none⟩) hk5).trans f4
         have g5 := (World.cell?_of_block (a := ⟨k, 2, none⟩) hk5).trans f5
         have g6 := (World.cell?_of_block (a := ⟨k, 3, none⟩) hk5).trans f6
         clear ho5 hg5 f0 f1 f2 f3 f4 f5 f6 f7 hk5)
      | (refine step_wpart rfl _ _ rfl B (.slice (some ⟨g, 0, none⟩) (rest.length + 1) cap) (p :: rest) rfl ((HU3.out.kept (below_one w3 _)).row) ((HU3.out.kept (below_one w3 _)).ps.size) ⟨w3.heap.size, 0, none⟩ hd.name (elemA r s F hd.name [] hd.attrs) VA _ VC (some ⟨W.heap.size, 0, none⟩) (.slice Ak K.len ck, K) rfl (fun j u hj => wpart_row1 w3 _ _ _ _ _ _ j u (by rw [HNM.out]; exact hj)) (by have := HL.out.1; simp only [List.length_cons]; omega) ?_
         intro v' w5 ho5 hg5
         have l4 := below_one w3 (.cells #[.string nm, .slice VA (elemA r s F hd.name [] hd.attrs).length VC, .string ⟨#[]⟩, .slice none 0 0, .slice none 0 0, .slice (some ⟨W.heap.size, 0, none⟩) 1 1] 84)
         have HEND : Hid (∃ C' lv, WS C' B X v' (⟨hd.name, elemA r s F hd.name [] hd.attrs, .slice VA (elemA r s F hd.name [] hd.attrs).length VC, [], .slice none 0 0, [], .slice none 0 0, [(.slice Ak K.len ck, K)], lv⟩ :: p :: rest) W0 w5) := hide ⟨_, _, (HU3.out.kept l4).pushPart hd.name (elemA r s F hd.name [] hd.attrs) _ _ _ K (HAT3.out.mono (fun x hx => l4.block x (HU3.out.ps.typ x hx).2.1) (fun _ x => x)) (HLV3.out.kept (grown_none l4) (by cases hv : (Value.slice (some ⟨W.heap.size, 0, none⟩) 1 1).ownBlock <;> simp)) HLN.out HE0.out.2.2.1 ho5 hg5⟩
         obtain ⟨f0, f1, f2, f3, f4, f5, f6, f7⟩ := HC.out _ (HBX.out.trans (l4.mono HBX.out.size))
         clear l4
         have hk5 := hg5.block k (World.block_lt_of_cell? _ _ f3) (fun e => HKG.out (by injection e))
         have g3 := (World.cell?_of_block (a := ⟨k, 0, none⟩) hk5).trans f3
         have g4 := (World.cell?_of_block (a := ⟨k, 1, none⟩) hk5).trans f4
         have g5 := (World.cell?_of_block (a := ⟨k, 2, none⟩) hk5).trans f5
         have g6 := (World.cell?_of_block (a := ⟨k, 3, none⟩) hk5).trans f6
         clear ho5 hg5 f0 f1 f2 f3 f4 f5 f6 f7 hk5))
    all_goals
      go_wp2_with fail
      go_ret
      obtain ⟨C5, lv5, hp5⟩ := HEND.out
      refine ⟨C5, v', ?_, _, hp5, .inr (.inr ⟨_, _, rfl, HG.out⟩)⟩
      simp [Array.getD]
end Go.Proofs.YtmgpmdfmkdhfgaaGreatDoor
