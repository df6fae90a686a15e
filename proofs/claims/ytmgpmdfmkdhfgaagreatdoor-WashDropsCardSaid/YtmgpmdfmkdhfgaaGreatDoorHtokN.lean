import Derived.Test.YtmgpmdfmkdhfgaaGreatDoorHtokM
import Derived.Test.YtmgpmdfmkdhfgaaGreatDoorBaseM
namespace Go.Proofs.YtmgpmdfmkdhfgaaGreatDoor
open Go.RowKit
set_option linter.unusedVariables false
set_option linter.unusedSimpArgs false
set_option maxRecDepth 100000
theorem baList (b:ByteArray):b.toList = b.data.toList:=by
 conv=>lhs;rw [<- str_of b]
 exact str_list _
theorem ba_ne {a b:ByteArray} (h:a ≠ b):(a.toList == b.toList) = false:=by
 refine beq_false_of_ne (fun e=>h ?_);rw [baList,baList] at e;rw [<- str_of a,e,str_of]
theorem rawEnd_not {n l:List UInt8} (h:Lib.hasPrefix l [60,47] = false):rawEndB n l = false:=by
 unfold rawEndB;split
 ·simp [Lib.hasPrefix] at h
 ·rfl
theorem rawEnd_yes {l:List UInt8} (h:Lib.hasPrefix l [60,47] = true):∃ r,l = 60 :: 47 :: r:=by
 unfold Lib.hasPrefix at h;obtain ⟨r,hr⟩:=List.isPrefixOf_iff_prefix.1 h;exact ⟨r,hr.symm⟩
theorem rawEnd_mk (n r:List UInt8):rawEndB n (60 :: 47 :: r) = (decide (n.length < r.length) && (lowL (r.take n.length) == n && nameEndB (r.getD n.length 0))):=by unfold rawEndB;rfl
theorem idxHas (c:UInt8):∀ l:List UInt8,decide (0 <= Lib.indexByte l c) = l.contains c
 | []=>rfl
 | b :: l=>by
  have ih:=idxHas c l;unfold Lib.indexByte
  by_cases h:b = c
  ·subst h;simp
  ·simp only [List.contains_cons];rw [beq_false_of_ne (fun e:c = b=>h e.symm),Bool.false_or,<- ih];have hb:(b == c) = false:=beq_false_of_ne h;simp only [hb]
   by_cases h2:Lib.indexByte l c = -1
   ·simp [h2]
   ·have:(Lib.indexByte l c == -1) = false:=beq_false_of_ne h2;simp only [this];apply Bool.eq_iff_iff.2;simp only [decide_eq_true_eq,Bool.false_eq_true,if_false];omega
theorem nameEnd_index (c:UInt8):decide (0 <= Lib.indexByte (⟨#[32,9,10,12,13,47,62]⟩:ByteArray).data.toList c) = nameEndB c:=by
 show decide (0 <= Lib.indexByte [32,9,10,12,13,47,62] c) = nameEndB c
 rw [idxHas];unfold nameEndB whB;simp only [List.contains_cons,List.contains_nil,Bool.or_false,Bool.or_assoc]
set_option maxHeartbeats 4000000 in
theorem isRawEnd_any (s n:ByteArray) (w:World) (hs:s.size <= 16777216) (hn:n.size <= 16777216) :
  Calls Tryz.prog 121 #[.string s,.string n] w fun e w'=>e = .returned (.bool (rawEndB n.data.toList s.data.toList)) /\ Below w.heap.size w w':=by
 cases hp:Lib.hasPrefix s.data.toList [60,47] with
 | false =>
  have HR:Hid (rawEndB n.data.toList s.data.toList = false):=hide (rawEnd_not hp);have HP:Hid (Lib.hasPrefix s.data.toList (⟨#[60,47]⟩:ByteArray).data.toList = false):=hide hp;clear hp;go_enter Tryz.func121,Tryz.ntmps121;go_wp2_with fail;refine (Tryz.strings_CutPrefix s _ _).mono ?_;rintro e w1 ⟨rfl,hw⟩;subst hw;rw [HP.out];go_wp2_with fail;go_ret;exact ⟨ret_bool HR.out.symm,Below.refl _ _⟩
 | true =>
  obtain ⟨r,hr⟩:=rawEnd_yes hp;obtain ⟨T,hT⟩:∃ T:ByteArray,T = str r:=⟨_,rfl⟩
  have HP:Hid (Lib.hasPrefix s.data.toList (⟨#[60,47]⟩:ByteArray).data.toList = true):=hide hp
  have HT:Hid ((⟨(Lib.trimPrefix s.data.toList (⟨#[60,47]⟩:ByteArray).data.toList).toArray⟩:ByteArray) = T):=hide (by
   rw [hT];unfold Lib.trimPrefix;rw [show (⟨#[60,47]⟩:ByteArray).data.toList = [60,47] from rfl,hp,hr];rfl)
  have hTl:T.data.toList = r:=by rw [hT,str_toList]
  have hTs:T.size = r.length:=by rw [hT,str_size]
  have hrl:r.length <= 16777216:=by
   have:=congrArg List.length hr;rw [toList_length] at this;simp at this;omega
  have hmk:=(congrArg (rawEndB n.data.toList) hr).trans (rawEnd_mk _ _);rw [toList_length] at hmk
  by_cases hle:r.length <= n.size
  ·have g1:T.size <= n.size:=by rw [hTs];exact hle
   have HR:Hid (rawEndB n.data.toList s.data.toList = false):=hide (by rw [hmk,decide_eq_false (by omega)];rfl);clear hp hr hT hTl hTs hmk hrl;go_enter Tryz.func121,Tryz.ntmps121;go_wp2_with fail;refine (Tryz.strings_CutPrefix s _ _).mono ?_;rintro e w1 ⟨rfl,hw⟩;subst hw;rw [HP.out,HT.out];go_wp2_with fail
   all_goals first | (exact absurd g1 ‹_›) | skip
   go_ret;exact ⟨ret_bool HR.out.symm,Below.refl _ _⟩
  ·have g1:¬ T.size <= n.size:=by rw [hTs];exact hle
   rw [decide_eq_true (show n.size < r.length by omega),Bool.true_and] at hmk;have hlt:n.size < T.size:=by omega
   have hg:r.getD n.size 0 = T[n.size]:=by
    have e:=drop_cons T n.size hlt;rw [hTl] at e;rw [List.getD_eq_getElem?_getD,<- List.head?_drop,e];rfl
   rw [hg] at hmk;have hel:(T.extract 0 n.size).data.toList = r.take n.size:=by rw [extract_list,List.drop_zero,hTl]
   have HLOW:=hide (fun w2=>lower_any (T.extract 0 n.size) w2 (by rw [ByteArray.size_extract];omega));rw [hel] at HLOW;have hu:(T[n.size].toNat:Int).toNat.toUInt8 = T[n.size]:=by rw [Int.toNat_natCast];exact UInt8.ofNat_toNat
   have HU:=hide hu;have q1:(n.size:Int) <= T.size:=by omega
   have hc256:=byte_lt T[n.size];obtain ⟨L,hL⟩:∃ L,str (lowL (r.take n.size)) = L:=⟨_,rfl⟩
   have hLn:(lowL (r.take n.size) == n.data.toList) = decide (L = n):=by
    by_cases e:L = n
    ·rw [decide_eq_true e,beq_iff_eq];have h2:(str (lowL (r.take n.size))).data.toList = n.data.toList:=by rw [hL,e]
     rw [str_toList] at h2;exact h2
    ·rw [decide_eq_false e];exact beq_false_of_ne (fun h=>e (by rw [<- hL,h,str_of]))
   rw [hLn] at hmk;rw [hL] at HLOW;have HIX:=hide (nameEnd_index T[n.size]);clear hp hr hT hTl hTs hrl hg hel hu hL hLn
   by_cases hq:L = n
   ·subst hq;rw [decide_eq_true rfl,Bool.true_and] at hmk;have HMK:=hide hmk;clear hmk;go_enter Tryz.func121,Tryz.ntmps121;go_wp2_with fail;refine (Tryz.strings_CutPrefix s _ _).mono ?_;rintro e w1 ⟨rfl,hw⟩;subst hw;rw [HP.out,HT.out];go_wp2_with fail;refine (HLOW.out _).mono ?_;rintro e w2 ⟨rfl,hb⟩;have HB:=hide hb;clear hb;go_wp2_with fail;refine (Tryz.strings_IndexByte _ _ _).mono ?_;rintro e w3 ⟨rfl,rfl⟩;rw [HU.out];go_wp2_with fail;go_ret;exact ⟨ret_bool (by rw [HMK.out];exact HIX.out),HB.out⟩
   ·rw [decide_eq_false hq,Bool.false_and] at hmk;have tq:=ba_ne hq;have HMK:=hide hmk;clear hmk;go_enter Tryz.func121,Tryz.ntmps121;go_wp2_with fail;refine (Tryz.strings_CutPrefix s _ _).mono ?_;rintro e w1 ⟨rfl,hw⟩;subst hw;rw [HP.out,HT.out];go_wp2_with fail;refine (HLOW.out _).mono ?_;rintro e w2 ⟨rfl,hb⟩;have HB:=hide hb;clear hb;go_wp2_with fail;go_ret;exact ⟨ret_bool HMK.out.symm,HB.out⟩
set_option maxHeartbeats 2000000 in
theorem rawSize_any (s n:ByteArray) (w:World) (hs:s.size <= 16777216) (hn:n.size <= 16777216) :
  Calls Tryz.prog 103 #[.string s,.string n] w fun e w'=>e = .returned (.int .i64 (rawSizeL n.data.toList s.data.toList:Nat)) /\ Below w.heap.size w w':=by
 have hlen:=toList_length s
 by_cases hpl:n = ⟨#[112,108,97,105,110,116,101,120,116]⟩
 ·have HR:Hid (rawSizeL n.data.toList s.data.toList = s.size):=hide (by
   unfold rawSizeL;rw [if_pos (by rw [hpl];rfl),hlen])
  clear hlen;go_enter Tryz.func103,Tryz.ntmps103;go_wp2_with fail;go_ret;exact ⟨ret_int (by rw [HR.out]),Below.refl _ _⟩
 ·have tq:(n.toList == [112,108,97,105,110,116,101,120,116]) = false:=by
   have:=ba_ne hpl
   rwa [show (⟨#[112,108,97,105,110,116,101,120,116]⟩:ByteArray).toList = [112,108,97,105,110,116,101,120,116] from by rw [baList]] at this
  have hrs:rawSizeL n.data.toList s.data.toList = rawN n.data.toList s.data.toList:=by
   unfold rawSizeL
   rw [if_neg (fun h=>hpl (by
    have:=congrArg str h;rw [str_of] at this;exact this))]
  have HRS:=hide hrs;clear hrs;go_enter Tryz.func103,Tryz.ntmps103;go_wp2_with fail;go_loopw [12] (fun i wr=>∃ k:Nat,k <= s.size /\ i = .int .i64 k /\ Hid (rawN n.data.toList s.data.toList = k + rawN n.data.toList (s.data.toList.drop k)) /\ Hid (Below w.heap.size w wr)) (fun i _=>s.size - (intOf i).toNat)
  case atStart=>exact ⟨0,Nat.zero_le _,rfl,hide (by rw [List.drop_zero,Nat.zero_add]),hide (Below.refl _ _)⟩
  case round =>
   obtain ⟨k,hk,rfl,HM,HB⟩:=hrel
   by_cases hlt:k < s.size
   ·have hd:=drop_cons s k hlt;have hel:(s.extract k s.size).data.toList = s.data.toList.drop k:=extract_end s k;have HI:=hide (fun w2=>isRawEnd_any (s.extract k s.size) n w2 (by rw [ByteArray.size_extract];omega) hn);rw [hel] at HI;cases hm:rawEndB n.data.toList (s.data.toList.drop k) with
    | true =>
     rw [hm] at HI
     have HR:Hid (rawN n.data.toList s.data.toList = k):=hide (by
      rw [HM.out,hd];rw [hd] at hm;unfold rawN;rw [if_pos hm,Nat.add_zero])
     clear hd hel hm hlen;go_wp2_with fail;refine (HI.out _).mono ?_;rintro e w1 ⟨rfl,hb⟩;have HB2:=hide (HB.out.trans (hb.mono HB.out.size));clear hb;go_wp2_with fail;go_ret;exact ⟨ret_int (by rw [HRS.out,HR.out]),HB2.out⟩
    | false =>
     rw [hm] at HI
     have HM2:Hid (rawN n.data.toList s.data.toList = (k + 1) + rawN n.data.toList (s.data.toList.drop (k + 1))):=hide (by
      rw [HM.out,hd];rw [hd] at hm
      conv=>lhs;unfold rawN
      rw [if_neg (by rw [hm];exact Bool.false_ne_true)];omega)
     clear hd hel hm hlen;go_wp2_with fail;refine (HI.out _).mono ?_;rintro e w1 ⟨rfl,hb⟩;have HB2:=hide (HB.out.trans (hb.mono HB.out.size));clear hb;go_wp2_with fail;go_roundw
     case rel=>exact ⟨k + 1,by omega,by go_num,HM2,HB2⟩
     case measure=>simp [intOf];omega
   ·obtain rfl:k = s.size:=by omega
    have HR:Hid (rawN n.data.toList s.data.toList = s.size):=hide (by
     rw [HM.out,List.drop_eq_nil_of_le (by rw [hlen];exact Nat.le_refl _)];rfl)
    clear hlen;go_wp2_with fail;go_ret;exact ⟨ret_int (by rw [HRS.out,HR.out]),HB.out⟩
end Go.Proofs.YtmgpmdfmkdhfgaaGreatDoor
