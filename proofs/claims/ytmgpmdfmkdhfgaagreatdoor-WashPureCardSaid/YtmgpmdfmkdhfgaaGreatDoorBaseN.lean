/- More of the first texts of this claim in one: each with its own head. No statement is proved here. -/
import Derived.Test.YtmgpmdfmkdhfgaaGreatDoorBaseM
import Derived.Lib.TrimUEq
import Derived.Shelf.GgClosure.StringsTrimFunc
import Derived.Test.YtmgpmdfmkdhfgaaGreatDoorShelf
import Derived.Test.YtmgpmdfmkdhfgaaGreatDoorProg
import Derived.Lib.ParseIntB
import Derived.Lib.ItoaNum
import Derived.Laws.AppendOwnNone
import Derived.DataElems
import Derived.Laws.OwnMore
import Derived.Below
import Derived.Lib.Builder
import Derived.Laws.Externs
import Derived.BigQuiet
import Derived.Deep.QuietTactic
import Derived.Lib.UnsafeStr
import Derived.BigRegion
import Derived.Deep.RegionWith
namespace Go.Proofs.YtmgpmdfmkdhfgaaGreatDoor
open Go.RowKit
set_option linter.unusedVariables false
set_option linter.unusedSimpArgs false
set_option maxRecDepth 100000
set_option maxHeartbeats 16000000
def staysL:List (List UInt8):=[
  [97],
  [98],
  [98,108,111,99,107,113,117,111,116,101],
  [98,114],
  [99,111,100,101],
  [100,100],
  [100,105,118],
  [100,108],
  [100,116],
  [101,109],
  [104,49],
  [104,50],
  [104,51],
  [104,52],
  [104,53],
  [104,54],
  [104,114],
  [105],
  [105,109,103],
  [108,105],
  [111,108],
  [112],
  [112,114,101],
  [115],
  [115,109,97,108,108],
  [115,112,97,110],
  [115,116,114,111,110,103],
  [115,117,98],
  [115,117,112],
  [117],
  [117,108]]
def dropsL:List (List UInt8):=[
  [97,112,112,108,101,116],
  [97,117,100,105,111],
  [98,97,115,101],
  [98,117,116,116,111,110],
  [99,97,110,118,97,115],
  [101,109,98,101,100],
  [102,114,97,109,101],
  [102,114,97,109,101,115,101,116],
  [104,101,97,100],
  [105,110,112,117,116],
  [108,105,110,107],
  [109,97,116,104],
  [109,101,116,97],
  [111,98,106,101,99,116],
  [111,112,116,105,111,110],
  [115,101,108,101,99,116],
  [115,111,117,114,99,101],
  [115,118,103],
  [116,101,109,112,108,97,116,101],
  [116,114,97,99,107],
  [118,105,100,101,111]]
def rawL:List (List UInt8):=[
  [115,99,114,105,112,116],
  [115,116,121,108,101],
  [116,105,116,108,101],
  [116,101,120,116,97,114,101,97],
  [120,109,112],
  [105,102,114,97,109,101],
  [110,111,101,109,98,101,100],
  [110,111,102,114,97,109,101,115],
  [112,108,97,105,110,116,101,120,116],
  [110,111,115,99,114,105,112,116]]
theorem staysL_cases (n:List UInt8) (h:staysL.contains n = true):n = [97] \/ n = [98] \/ n = [98,108,111,99,107,113,117,111,116,101] \/ n = [98,114] \/ n = [99,111,100,101] \/ n = [100,100] \/ n = [100,105,118] \/ n = [100,108] \/ n = [100,116] \/ n = [101,109] \/ n = [104,49] \/ n = [104,50] \/ n = [104,51] \/ n = [104,52] \/ n = [104,53] \/ n = [104,54] \/ n = [104,114] \/ n = [105] \/ n = [105,109,103] \/ n = [108,105] \/ n = [111,108] \/ n = [112] \/ n = [112,114,101] \/ n = [115] \/ n = [115,109,97,108,108] \/ n = [115,112,97,110] \/ n = [115,116,114,111,110,103] \/ n = [115,117,98] \/ n = [115,117,112] \/ n = [117] \/ n = [117,108]:=by
 simpa [staysL] using h
theorem staysL_none (n:List UInt8) (h:staysL.contains n = false):n ≠ [97] /\ n ≠ [98] /\ n ≠ [98,108,111,99,107,113,117,111,116,101] /\ n ≠ [98,114] /\ n ≠ [99,111,100,101] /\ n ≠ [100,100] /\ n ≠ [100,105,118] /\ n ≠ [100,108] /\ n ≠ [100,116] /\ n ≠ [101,109] /\ n ≠ [104,49] /\ n ≠ [104,50] /\ n ≠ [104,51] /\ n ≠ [104,52] /\ n ≠ [104,53] /\ n ≠ [104,54] /\ n ≠ [104,114] /\ n ≠ [105] /\ n ≠ [105,109,103] /\ n ≠ [108,105] /\ n ≠ [111,108] /\ n ≠ [112] /\ n ≠ [112,114,101] /\ n ≠ [115] /\ n ≠ [115,109,97,108,108] /\ n ≠ [115,112,97,110] /\ n ≠ [115,116,114,111,110,103] /\ n ≠ [115,117,98] /\ n ≠ [115,117,112] /\ n ≠ [117] /\ n ≠ [117,108]:=by
 simpa [staysL] using h
theorem dropsL_cases (n:List UInt8) (h:dropsL.contains n = true):n = [97,112,112,108,101,116] \/ n = [97,117,100,105,111] \/ n = [98,97,115,101] \/ n = [98,117,116,116,111,110] \/ n = [99,97,110,118,97,115] \/ n = [101,109,98,101,100] \/ n = [102,114,97,109,101] \/ n = [102,114,97,109,101,115,101,116] \/ n = [104,101,97,100] \/ n = [105,110,112,117,116] \/ n = [108,105,110,107] \/ n = [109,97,116,104] \/ n = [109,101,116,97] \/ n = [111,98,106,101,99,116] \/ n = [111,112,116,105,111,110] \/ n = [115,101,108,101,99,116] \/ n = [115,111,117,114,99,101] \/ n = [115,118,103] \/ n = [116,101,109,112,108,97,116,101] \/ n = [116,114,97,99,107] \/ n = [118,105,100,101,111]:=by
 simpa [dropsL] using h
theorem dropsL_none (n:List UInt8) (h:dropsL.contains n = false):n ≠ [97,112,112,108,101,116] /\ n ≠ [97,117,100,105,111] /\ n ≠ [98,97,115,101] /\ n ≠ [98,117,116,116,111,110] /\ n ≠ [99,97,110,118,97,115] /\ n ≠ [101,109,98,101,100] /\ n ≠ [102,114,97,109,101] /\ n ≠ [102,114,97,109,101,115,101,116] /\ n ≠ [104,101,97,100] /\ n ≠ [105,110,112,117,116] /\ n ≠ [108,105,110,107] /\ n ≠ [109,97,116,104] /\ n ≠ [109,101,116,97] /\ n ≠ [111,98,106,101,99,116] /\ n ≠ [111,112,116,105,111,110] /\ n ≠ [115,101,108,101,99,116] /\ n ≠ [115,111,117,114,99,101] /\ n ≠ [115,118,103] /\ n ≠ [116,101,109,112,108,97,116,101] /\ n ≠ [116,114,97,99,107] /\ n ≠ [118,105,100,101,111]:=by
 simpa [dropsL] using h
theorem rawL_cases (n:List UInt8) (h:rawL.contains n = true):n = [115,99,114,105,112,116] \/ n = [115,116,121,108,101] \/ n = [116,105,116,108,101] \/ n = [116,101,120,116,97,114,101,97] \/ n = [120,109,112] \/ n = [105,102,114,97,109,101] \/ n = [110,111,101,109,98,101,100] \/ n = [110,111,102,114,97,109,101,115] \/ n = [112,108,97,105,110,116,101,120,116] \/ n = [110,111,115,99,114,105,112,116]:=by
 simpa [rawL] using h
theorem rawL_none (n:List UInt8) (h:rawL.contains n = false):n ≠ [115,99,114,105,112,116] /\ n ≠ [115,116,121,108,101] /\ n ≠ [116,105,116,108,101] /\ n ≠ [116,101,120,116,97,114,101,97] /\ n ≠ [120,109,112] /\ n ≠ [105,102,114,97,109,101] /\ n ≠ [110,111,101,109,98,101,100] /\ n ≠ [110,111,102,114,97,109,101,115] /\ n ≠ [112,108,97,105,110,116,101,120,116] /\ n ≠ [110,111,115,99,114,105,112,116]:=by
 simpa [rawL] using h
def elemN (n:List UInt8):Nat:=if staysL.contains n = true then 2 else if dropsL.contains n = true then 0 else if rawL.contains n = true then 0 else 1
def wordsL:List (List UInt8):=[
  [116,105,116,108,101],
  [100,105,114],
  [108,97,110,103],
  [115,116,121,108,101]]
def imgL:List (List UInt8):=[
  [115,114,99],
  [97,108,116],
  [119,105,100,116,104],
  [104,101,105,103,104,116]]
def attrB (e n:List UInt8):Bool :=
  if wordsL.contains n = true then ((elemN e:Nat):Int) == 2
  else if n = [104,114,101,102] then e == [97]
  else if imgL.contains n = true then e == [105,109,103]
  else if n = [115,116,97,114,116] then e == [111,108]
  else if n = [118,97,108,117,101] then e == [108,105]
  else false
def attrsL:List (List UInt8):=[
  [116,105,116,108,101],
  [100,105,114],
  [108,97,110,103],
  [115,116,121,108,101],
  [104,114,101,102],
  [115,114,99],
  [97,108,116],
  [119,105,100,116,104],
  [104,101,105,103,104,116],
  [115,116,97,114,116],
  [118,97,108,117,101]]
theorem attrsL_cases (n:List UInt8) (h:attrsL.contains n = true):n = [116,105,116,108,101] \/ n = [100,105,114] \/ n = [108,97,110,103] \/ n = [115,116,121,108,101] \/ n = [104,114,101,102] \/ n = [115,114,99] \/ n = [97,108,116] \/ n = [119,105,100,116,104] \/ n = [104,101,105,103,104,116] \/ n = [115,116,97,114,116] \/ n = [118,97,108,117,101]:=by
 simpa [attrsL] using h
theorem attrsL_none (n:List UInt8) (h:attrsL.contains n = false):n ≠ [116,105,116,108,101] /\ n ≠ [100,105,114] /\ n ≠ [108,97,110,103] /\ n ≠ [115,116,121,108,101] /\ n ≠ [104,114,101,102] /\ n ≠ [115,114,99] /\ n ≠ [97,108,116] /\ n ≠ [119,105,100,116,104] /\ n ≠ [104,101,105,103,104,116] /\ n ≠ [115,116,97,114,116] /\ n ≠ [118,97,108,117,101]:=by
 simpa [attrsL] using h
theorem attrB_none (e n:List UInt8) (h:attrsL.contains n = false):attrB e n = false:=by
 have h2:=attrsL_none n h;unfold attrB;simp [wordsL,imgL,h2]
end Go.Proofs.YtmgpmdfmkdhfgaaGreatDoor
namespace Go.Proofs.YtmgpmdfmkdhfgaaGreatDoor
open Go.Lib
set_option linter.unusedVariables false
set_option linter.unusedSimpArgs false
def lowR (r:Nat):Bool:=decide (r <= 32)
def wB (c:UInt8):Bool:=decide (c.toNat <= 32)
def trimR (l:List UInt8):List UInt8:=(l.reverse.dropWhile wB).reverse
def trimW (l:List UInt8):List UInt8:=trimR (l.dropWhile wB)
theorem decodeN_hi (n b0 b1 b2 b3:Nat) (h:128 <= b0):32 < (decodeN n b0 b1 b2 b3).1:=by
 unfold decodeN
 repeat' split
 all_goals (simp only;omega)
theorem getD_byte (s:ByteArray) (k:Nat) (h:k < s.size):s.data.toList.getD k 0 = s[k]:=by
 have hl:k < s.data.toList.length:=by rw [toList_length];exact h
 rw [List.getD_eq_getElem?_getD,List.getElem?_eq_getElem hl];rfl
theorem decode_low (s:ByteArray) (k:Nat) (h:k < s.size) (hc:(s[k]'h).toNat < 128):Utf8.decode s k = ((s[k]'h).toNat,1):=by
 rw [decode_N,getD_byte s k h,decodeN_ascii _ _ _ _ _ hc]
theorem decode_high (s:ByteArray) (k:Nat) (h:k < s.size) (hc:128 <= (s[k]'h).toNat):32 < (Utf8.decode s k).1:=by
 rw [decode_N,getD_byte s k h];exact decodeN_hi _ _ _ _ _ hc
theorem idx_w {s:ByteArray} {f pos:Nat} (hp:pos < s.size) (h:lowR (Utf8.decode s pos).1 = true):idxFuncFrom lowR false s (f + 1) pos = idxFuncFrom lowR false s f (pos + (Utf8.decode s pos).2):=by
 rw [idxFuncFrom,if_pos hp,if_neg (by rw [h];decide)]
theorem idx_n {s:ByteArray} {f pos:Nat} (hp:pos < s.size) (h:lowR (Utf8.decode s pos).1 = false):idxFuncFrom lowR false s (f + 1) pos = (pos:Int):=by
 rw [idxFuncFrom,if_pos hp,if_pos h]
theorem last_w {s:ByteArray} {f i:Nat} (hi:0 < i) (h:lowR (decodeLastL (s.data.toList.take i)).1 = true):lastIdxFuncFrom lowR false s (f + 1) i = lastIdxFuncFrom lowR false s f (i - (decodeLastL (s.data.toList.take i)).2):=by
 rw [lastIdxFuncFrom,if_pos hi,if_neg (by rw [h];decide)]
theorem last_n {s:ByteArray} {f i:Nat} (hi:0 < i) (h:lowR (decodeLastL (s.data.toList.take i)).1 = false):lastIdxFuncFrom lowR false s (f + 1) i = ((i - (decodeLastL (s.data.toList.take i)).2:Nat):Int):=by
 rw [lastIdxFuncFrom,if_pos hi,if_pos h]
theorem left_low (s:ByteArray):∀ (f pos:Nat),s.size <= pos + f ->
  (s.data.toList.drop pos).dropWhile wB = if idxFuncFrom lowR false s f pos = -1 then [] else s.data.toList.drop (idxFuncFrom lowR false s f pos).toNat
 | 0,pos,h=>by
  have e:s.data.toList.drop pos = []:=drop_nil s pos (by omega);simp [idxFuncFrom,e]
 | f + 1,pos,h=>by
  by_cases hp:pos < s.size
  ·have hc:=drop_cons s pos hp
   by_cases ha:s[pos].toNat <= 32
   ·have hd:=decode_low s pos hp (by omega);rw [idx_w hp (by rw [hd];exact decide_eq_true ha),hd,hc,List.dropWhile_cons,if_pos (by simp [wB,ha])];exact left_low s f (pos + 1) (by omega)
   ·have h32:32 < (Utf8.decode s pos).1:=by
     by_cases hb:s[pos].toNat < 128
     ·rw [decode_low s pos hp hb];simp only;omega
     ·exact decode_high s pos hp (by omega)
    rw [idx_n hp (decide_eq_false (by omega)),if_neg (by omega),Int.toNat_natCast,hc,List.dropWhile_cons,if_neg (by simp [wB];omega)]
  ·have e:s.data.toList.drop pos = []:=drop_nil s pos (by omega);rw [idxFuncFrom_end _ _ _ _ _ hp,if_pos rfl,e];rfl
theorem trimLeft_low (s:ByteArray):(trimLeftF lowR s).data.toList = s.data.toList.dropWhile wB:=by
 have h:=left_low s s.size 0 (by omega);rw [List.drop_zero] at h;rw [h];unfold trimLeftF idxFunc;split
 ·rfl
 ·rw [extract_end]
theorem trimR_snoc_w (l:List UInt8) (c:UInt8) (h:wB c = true):trimR (l ++ [c]) = trimR l:=by simp [trimR,h]
theorem trimR_snoc_n (l:List UInt8) (c:UInt8) (h:wB c = false):trimR (l ++ [c]) = l ++ [c]:=by simp [trimR,h]
theorem take_last (l:List UInt8) (i:Nat) (h0:0 < i) (h:i <= l.length):l.take i = l.take (i - 1) ++ [l.getD (i - 1) 0]:=by
 obtain ⟨j,rfl⟩:∃ j,i = j + 1:=⟨i - 1,by omega⟩
 have hj:j < l.length:=by omega
 rw [Nat.add_sub_cancel,List.take_succ_eq_append_getElem hj,List.getD_eq_getElem?_getD,List.getElem?_eq_getElem hj];rfl
theorem right_low (s:ByteArray):∀ (f i:Nat),i <= f -> i <= s.data.toList.length -> OpenAt s.data.toList i ->
  trimR (s.data.toList.take i) = s.data.toList.take (if 0 <= lastIdxFuncFrom lowR false s f i then (lastIdxFuncFrom lowR false s f i).toNat + (decodeL (s.data.toList.drop (lastIdxFuncFrom lowR false s f i).toNat)).2 else 0)
 | 0,i,hf,_,_=>by
  obtain rfl:i = 0:=by omega
  simp [trimR,lastIdxFuncFrom]
 | f + 1,i,hf,hil,ho=>by
  by_cases hi:0 < i
  ·have hlen:(s.data.toList.take i).length = i:=by rw [List.length_take];omega
   have hw:=decodeLastL_width (s.data.toList.take i) (by omega);rw [hlen] at hw;have hsn:=take_last s.data.toList i hi hil;have hlc:=last_cases s.data.toList i hi hil
   by_cases h32:(s.data.toList.getD (i - 1) 0).toNat <= 32
   ·have hd:decodeLastL (s.data.toList.take i) = ((s.data.toList.getD (i - 1) 0).toNat,1):=by
     rcases hlc with ⟨_,hd⟩ | ⟨ha,_⟩ | ⟨ha,_⟩
     ·exact hd
     ·omega
     ·omega
    rw [last_w hi (by rw [hd];exact decide_eq_true h32),hd,hsn,trimR_snoc_w _ _ (decide_eq_true h32)];exact right_low s f (i - 1) (by omega) (by omega) (.inr (by omega))
   ·have hp:lowR (decodeLastL (s.data.toList.take i)).1 = false:=by
     unfold lowR;apply decide_eq_false;rcases hlc with ⟨_,hd⟩ | ⟨_,hd⟩ | ⟨ha,st,hst,hd,hsum⟩
     ·rw [hd];exact h32
     ·rw [hd];decide
     ·rw [hd]
      by_cases hb:(s.data.toList.getD st 0).toNat < 128
      ·exfalso
       have e:decodeL ((s.data.toList.take i).drop st) = ((s.data.toList.getD st 0).toNat,1):=by
        rw [decodeL_N,getD_dropU,Nat.add_zero,getD_takeU _ _ _ hst,decodeN_ascii _ _ _ _ _ hb]
       rw [e] at hsum;obtain rfl:st = i - 1:=by simp only at hsum;omega
       omega
      ·have:32 < (decodeL ((s.data.toList.take i).drop st)).1:=by
        rw [decodeL_N,getD_dropU,Nat.add_zero,getD_takeU _ _ _ hst];exact decodeN_hi _ _ _ _ _ (by omega)
       omega
    rw [last_n hi hp,if_pos (by omega),Int.toNat_natCast,fw_width _ i hi hil ho,Nat.sub_add_cancel hw.2,hsn,trimR_snoc_n _ _ (decide_eq_false h32)]
  ·obtain rfl:i = 0:=by omega
   rw [lastIdxFuncFrom_zero];simp [trimR]
theorem lastIdx_lt (s:ByteArray):∀ (f i:Nat),i <= s.size -> 0 <= lastIdxFuncFrom lowR false s f i -> lastIdxFuncFrom lowR false s f i < i
 | 0,i,_,h=>by simp [lastIdxFuncFrom] at h
 | f + 1,i,hi,h=>by
  unfold lastIdxFuncFrom at h ⊢
  by_cases h0:0 < i
  ·have hw:=decodeLastL_width (s.data.toList.take i) (by rw [List.length_take,toList_length];omega);rw [List.length_take,toList_length,Nat.min_eq_left hi] at hw;rw [if_pos h0] at h ⊢;split
   ·omega
   ·rename_i hn;rw [if_neg hn] at h;have:=lastIdx_lt s f (i - (decodeLastL (s.data.toList.take i)).2) (by omega) h;omega
  ·rw [if_neg h0] at h;omega
theorem trimRight_low (s:ByteArray):(trimRightF lowR s).data.toList = trimR s.data.toList:=by
 have h:=right_low s s.size s.size (Nat.le_refl _) (by rw [toList_length];exact Nat.le_refl _) (.inl (toList_length s).symm);rw [List.take_of_length_le (by rw [toList_length];exact Nat.le_refl _)] at h;rw [h];unfold trimRightF rightEndF lastIdxFunc;rw [extract_list,List.drop_zero]
 congr 1
 split
 ·rename_i h0
  congr 2
  rcases lastIdxFuncFrom_range lowR false s s.size s.size with hm | hlt
  ·omega
  ·by_cases hz:(lastIdxFuncFrom lowR false s s.size s.size).toNat < s.size
   ·have hx:s.extract (lastIdxFuncFrom lowR false s s.size s.size).toNat s.size = ⟨(s.data.toList.drop (lastIdxFuncFrom lowR false s s.size s.size).toNat).toArray⟩:=ext_list (by rw [extract_end])
    have hxs:(⟨(s.data.toList.drop (lastIdxFuncFrom lowR false s s.size s.size).toNat).toArray⟩:ByteArray).size ≠ 0:=by
     rw [<- hx,ByteArray.size_extract];omega
    rw [hx];unfold decodeGoB decodeL;rw [if_neg hxs]
   ·exfalso;have:=lastIdx_lt s s.size s.size (Nat.le_refl _) hlt.1;omega
 ·rfl
theorem trimF_low (s:ByteArray):(trimF lowR s).data.toList = trimW s.data.toList:=by
 unfold trimF trimW;rw [trimRight_low,trimLeft_low]
end Go.Proofs.YtmgpmdfmkdhfgaaGreatDoor
namespace Go.Proofs.YtmgpmdfmkdhfgaaGreatDoor
open Go.RowKit
set_option linter.unusedVariables false
set_option linter.unusedSimpArgs false
set_option maxRecDepth 100000
set_option maxHeartbeats 16000000
def tagB (c:UInt8):Bool:=c == 9 || c == 10 || c == 13
def keepL (l:List UInt8):List UInt8:=l.filter fun c=>!tagB c
def lkClean (l:List UInt8):List UInt8:=keepL (trimW l)
theorem trimR_pre (l:List UInt8):trimR l <+: l:=by
 unfold trimR;have:=List.dropWhile_suffix (l:=l.reverse) wB;have h:=List.reverse_prefix.2 this
 rwa [List.reverse_reverse] at h
theorem trimW_length (l:List UInt8):(trimW l).length <= l.length :=
 Nat.le_trans (trimR_pre _).length_le (List.dropWhile_sublist _).length_le
theorem clean_length (l:List UInt8):(lkClean l).length <= l.length:=Nat.le_trans (List.length_filter_le _ _) (trimW_length l)
def schB (c:UInt8):Bool:=letterB c || digitB c || c == 43 || c == 45 || c == 46
def headOK:List UInt8 -> Bool
  | []=>false
  | c :: _=>letterB c
def schL (l:List UInt8):Option (List UInt8 × List UInt8) :=
  if headOK l = true /\ (l.dropWhile schB).headD 0 = 58 then some (lowL (l.takeWhile schB),(l.dropWhile schB).tail) else none
theorem schB_58:schB 58 = false:=by decide
theorem takeW_of {p:UInt8 -> Bool} {m b:List UInt8} {c:UInt8} (h:∀ x ∈ m,p x = true) (hc:p c = false):(m ++ c :: b).takeWhile p = m /\ (m ++ c :: b).dropWhile p = c :: b:=by
 induction m with
 | nil=>simp [hc]
 | cons a r ih =>
  have ha:=h a (List.mem_cons_self ..);have:=ih (fun x hx=>h x (List.mem_cons_of_mem _ hx));simp [ha,this.1,this.2]
theorem takeW_all {p:UInt8 -> Bool} {m:List UInt8} (h:∀ x ∈ m,p x = true):m.takeWhile p = m /\ m.dropWhile p = []:=by
 induction m with
 | nil=>exact ⟨rfl,rfl⟩
 | cons a r ih =>
  have ha:=h a (List.mem_cons_self ..);have:=ih (fun x hx=>h x (List.mem_cons_of_mem _ hx));simp [ha,this.1,this.2]
theorem headOK_app {m b:List UInt8} (h:headOK m = true):headOK (m ++ b) = true:=by
 cases m with
 | nil=>cases h
 | cons a r=>exact h
theorem schL_of {m b:List UInt8} (h0:headOK m = true) (h:∀ x ∈ m,schB x = true):schL (m ++ 58 :: b) = some (lowL m,b):=by
 obtain ⟨e1,e2⟩:=takeW_of (b:=b) h schB_58;unfold schL;rw [e1,e2,if_pos ⟨headOK_app h0,rfl⟩];rfl
theorem schL_stop {m b:List UInt8} {c:UInt8} (h:∀ x ∈ m,schB x = true) (hc:schB c = false) (h58:c ≠ 58):schL (m ++ c :: b) = none:=by
 obtain ⟨e1,e2⟩:=takeW_of (b:=b) h hc;unfold schL;rw [e2,if_neg (fun e=>h58 e.2)]
theorem schL_end {m:List UInt8} (h:∀ x ∈ m,schB x = true):schL m = none:=by
 unfold schL;rw [(takeW_all h).2,if_neg (fun e=>absurd e.2 (by decide))]
theorem schL_head {c:UInt8} {r:List UInt8} (h:letterB c = false):schL (c :: r) = none:=by
 unfold schL;rw [if_neg];intro e;have:letterB c = true:=e.1;rw [h] at this;cases this
def noH (c:UInt8):Bool:=c == 47 || c == 63 || c == 35 || c == 92
def hostB:List UInt8 -> Bool
  | a :: b :: c :: _=>a == 47 && b == 47 && !noH c
  | _=>false
def httpL:List UInt8:=[104,116,116,112]
def httpsL:List UInt8:=[104,116,116,112,115]
def mailL:List UInt8:=[109,97,105,108,116,111]
def cidL:List UInt8:=[99,105,100]
def lkKindOf (n b:List UInt8):Nat :=
  if n = httpL then (if hostB b = true then 1 else 5) else if n = httpsL then (if hostB b = true then 2 else 5) else if n = mailL then 3 else if n = cidL then 4 else 5
def lkKind (l:List UInt8):Nat :=
  match schL l with
  | none=>0
  | some (n,b)=>lkKindOf n b
theorem lkKind_none {l:List UInt8} (h:schL l = none):lkKind l = 0:=by unfold lkKind;rw [h]
theorem lkKind_some {l n b:List UInt8} (h:schL l = some (n,b)):lkKind l = lkKindOf n b:=by unfold lkKind;rw [h]
theorem lkKindOf_pos (n b:List UInt8):1 <= lkKindOf n b /\ lkKindOf n b <= 5:=by
 unfold lkKindOf
 repeat' split
 all_goals exact ⟨by omega,by omega⟩
def spaceB (c:UInt8):Bool:=whiteSet.contains c
def leftW (l:List UInt8):List UInt8:=l.dropWhile spaceB
def rightW (l:List UInt8):List UInt8:=(l.reverse.dropWhile spaceB).reverse
theorem rightW_snoc (l:List UInt8) (c:UInt8):rightW (l ++ [c]) = if spaceB c then rightW l else l ++ [c]:=by
 unfold rightW;rw [List.reverse_append];show (List.dropWhile spaceB (c :: l.reverse)).reverse = _
 rw [List.dropWhile_cons];split
 ·rfl
 ·simp
theorem leftW_cons (c:UInt8) (l:List UInt8):leftW (c :: l) = if spaceB c then leftW l else c :: l:=by
 unfold leftW;rw [List.dropWhile_cons]
theorem trim_eq (l:List UInt8):Lib.trimS l whiteSet = leftW (rightW l):=rfl
theorem rightW_cons {c:UInt8} (h:spaceB c = false) (l:List UInt8):rightW (c :: l) = c :: rightW l:=by
 suffices H:∀ k:List UInt8,rightW (c :: k.reverse) = c :: rightW k.reverse by
  have:=H l.reverse;rwa [List.reverse_reverse] at this
 intro k
 induction k with
 | nil =>
  show rightW ([] ++ [c]) = _
  rw [rightW_snoc,h];rfl
 | cons d k ih =>
  rw [List.reverse_cons,<- List.cons_append,rightW_snoc,rightW_snoc,ih];split <;> rfl
theorem rightW_all (l:List UInt8) (h:∀ c ∈ l,spaceB c = true):rightW l = []:=by
 unfold rightW;rw [List.reverse_eq_nil_iff];have h':∀ c ∈ l.reverse,spaceB c = true:=fun c hc=>h c (List.mem_reverse.1 hc)
 generalize l.reverse = k at h'
 induction k with
 | nil=>rfl
 | cons c k ih=>rw [List.dropWhile_cons,h' c (List.mem_cons_self ..)];exact ih (fun x hx=>h' x (List.mem_cons_of_mem _ hx))
theorem lr (l : List UInt8) : leftW (rightW l) = rightW (leftW l) := by
  induction l with
  | nil => rfl
  | cons c l ih =>
    cases h : spaceB c with
    | false =>
      rw [rightW_cons h, leftW_cons, leftW_cons, h]
      simp only [Bool.false_eq_true, if_false]
      rw [rightW_cons h]
    | true =>
      rw [leftW_cons, h]
      simp only [if_true]
      rw [← ih]
      by_cases hall : ∀ x ∈ l, spaceB x = true
      · rw [rightW_all l hall, rightW_all (c :: l) (fun x hx => by rcases List.mem_cons.1 hx with e | e; · rw [e]; exact h
                                                                   · exact hall x e)]
      · have key : rightW (c :: l) = c :: rightW l := by
          suffices H : ∀ k : List UInt8, (¬ ∀ x ∈ k.reverse, spaceB x = true) → rightW (c :: k.reverse) = c :: rightW k.reverse by
            have := H l.reverse; rw [List.reverse_reverse] at this; exact this hall
          intro k
          induction k with
          | nil => intro hn; exact absurd (fun x hx => by cases hx) hn
          | cons d k ihk =>
            intro hn
            rw [List.reverse_cons, ← List.cons_append, rightW_snoc, rightW_snoc]
            cases hd : spaceB d with
            | false => rfl
            | true =>
              simp only [if_true]
              refine ihk (fun hk => hn (fun x hx => ?_))
              rw [List.reverse_cons, List.mem_append] at hx
              rcases hx with hx | hx
              · exact hk x hx
              · rw [List.mem_singleton.1 hx]; exact hd
        rw [key, leftW_cons, h]; rfl
theorem asciiLetter_any (c:UInt8) (w:World) :
  Calls Tryz.prog 74 #[.int .u8 c.toNat] w fun e w'=>e = .returned (.bool (letterB c)) /\ w = w':=by
 have hc:=byte_lt c;rcases letter_case c with ⟨c1,c2,e⟩ | ⟨c1,c2,c3,e⟩ | ⟨c1,c2,e⟩ | ⟨c1,c2,c3,e⟩ | ⟨c1,c2,e⟩
 all_goals
  rw [e];clear e
  go_enter Tryz.func74,Tryz.ntmps74;go_wp2;go_ret;exact ⟨ret_bool (by first | rfl | (simp;omega)),rfl⟩
def markB (m:List UInt8) (c:UInt8):Bool:=letterB c || digitB c || decide (0 <= Lib.indexByte m c)
theorem asciiPlain_any (c:UInt8) (m:ByteArray) (w:World) :
  Calls Tryz.prog 106 #[.int .u8 c.toNat,.string m] w fun e w'=>e = .returned (.bool (markB m.data.toList c)) /\ w = w':=by
 have hc:=byte_lt c;have hu:(c.toNat:Int).toNat.toUInt8 = c:=by rw [Int.toNat_natCast];exact UInt8.ofNat_toNat
 have HU:=hide hu;clear hu;cases hl:letterB c with
 | true =>
  have HB:Hid (markB m.data.toList c = true):=by unfold markB;rw [hl];exact hide rfl
  have HL:=hide hl;clear hl;go_enter Tryz.func106,Tryz.ntmps106;go_wp2_with fail;refine (asciiLetter_any c _).mono ?_;rintro e w1 ⟨rfl,rfl⟩;rw [HL.out];go_wp2_with fail;go_ret;exact ⟨ret_bool HB.out.symm,rfl⟩
 | false =>
  have HL:=hide hl;rcases digit_case c with ⟨c1,c2,e⟩ | ⟨c1,e⟩ | ⟨c1,c2,e⟩
  ·have HB:Hid (markB m.data.toList c = true):=by unfold markB;rw [hl,e];exact hide rfl
   clear hl e;go_enter Tryz.func106,Tryz.ntmps106;go_wp2_with fail;refine (asciiLetter_any c _).mono ?_;rintro e w1 ⟨rfl,rfl⟩;rw [HL.out];go_wp2_with fail;go_ret;exact ⟨ret_bool HB.out.symm,rfl⟩
  all_goals
   have HB:Hid (markB m.data.toList c = decide (0 <= Lib.indexByte m.data.toList c)):=by unfold markB;rw [hl,e];exact hide rfl
   clear hl e;go_enter Tryz.func106,Tryz.ntmps106;go_wp2_with fail;refine (asciiLetter_any c _).mono ?_;rintro e w1 ⟨rfl,rfl⟩;rw [HL.out];go_wp2_with fail;refine (Tryz.strings_IndexByte _ _ _).mono ?_;rintro e w1 ⟨rfl,rfl⟩;rw [HU.out];go_wp2_with fail;go_ret;exact ⟨ret_bool (by first | (rw [HB.out];done) | (rw [HB.out,show decide ((c.toNat:Int) <= 57) = false from decide_eq_false (by omega)];rfl)),rfl⟩
def beforeC (c:UInt8) (l:List UInt8):List UInt8:=l.takeWhile fun x=>x != c
def hasC (c:UInt8) (l:List UInt8):Bool:=decide (c ∈ l)
theorem hasC_true {c:UInt8} {l:List UInt8} (h:c ∈ l):hasC c l = true:=decide_eq_true h
theorem hasC_false {c:UInt8} {l:List UInt8} (h:c ∉ l):hasC c l = false:=decide_eq_false h
def afterC (c:UInt8) (l:List UInt8):List UInt8:=(l.dropWhile fun x=>x != c).drop 1
theorem cut_at (c:UInt8) (l:List UInt8) (o:Nat) (ho:o < l.length) (h:l[o] = c) (hb:∀ j (hj:j < o),l[j]'(Nat.lt_trans hj ho) ≠ c):c ∈ l /\ beforeC c l = l.take o /\ afterC c l = l.drop (o + 1):=by
 refine ⟨h ▸ List.getElem_mem ho,?_⟩
 induction o generalizing l with
 | zero =>
  match l,ho,h with
  | a :: l,_,h =>
   have:(a != c) = false:=by rw [bne_eq_false_iff_eq];exact h
   unfold beforeC afterC;rw [List.takeWhile_cons,List.dropWhile_cons,this];simp
 | succ o ih =>
  match l,ho,h,hb with
  | a :: l,ho,h,hb =>
   have h1:(a != c) = true:=by rw [bne_iff_ne];exact hb 0 (by omega)
   have:=ih l (by simpa using ho) (by simpa using h) (fun j hj=>by simpa using hb (j + 1) (by omega));unfold beforeC afterC at this ⊢;rw [List.takeWhile_cons,List.dropWhile_cons,h1];simp [this]
theorem cut_case (c:UInt8) (l:List UInt8):(c ∉ l /\ beforeC c l = l /\ afterC c l = []) \/ ∃ a r,l = a ++ c :: r /\ c ∉ a /\ beforeC c l = a /\ afterC c l = r:=by
 induction l with
 | nil=>exact .inl ⟨by simp,rfl,rfl⟩
 | cons x l ih =>
  by_cases hx:x = c
  ·subst hx;exact .inr ⟨[],l,rfl,by simp,by simp [beforeC],by simp [afterC]⟩
  ·have hne:(x != c) = true:=by rw [bne_iff_ne];exact hx
   have e1:beforeC c (x :: l) = x :: beforeC c l:=by unfold beforeC;rw [List.takeWhile_cons,hne];rfl
   have e2:afterC c (x :: l) = afterC c l:=by unfold afterC;rw [List.dropWhile_cons,hne];rfl
   rcases ih with ⟨h1,h2,h3⟩ | ⟨a,r,h1,h2,h3,h4⟩
   ·exact .inl ⟨by simp [h1];exact fun e=>hx e.symm,by rw [e1,h2],by rw [e2,h3]⟩
   ·exact .inr ⟨x :: a,r,by rw [h1];rfl,by simp [h2];exact fun e=>hx e.symm,by rw [e1,h3],by rw [e2,h4]⟩
theorem list_ind {p:List UInt8 -> Prop} (h:∀ l,(∀ k:List UInt8,k.length < l.length -> p k) -> p l) (l:List UInt8):p l:=by
 suffices H:∀ n,∀ l:List UInt8,l.length < n -> p l from H (l.length + 1) l (by omega)
 intro n
 induction n with
 | zero=>intro l hl;omega
 | succ n ih=>intro l hl;exact h l (fun k hk=>ih k (by omega))
def trimV (l:List UInt8):List UInt8:=rightW (leftW l)
theorem leftW_len (l:List UInt8):(leftW l).length <= l.length:=(List.dropWhile_sublist _).length_le
theorem rightW_len (l:List UInt8):(rightW l).length <= l.length:=by
 unfold rightW;rw [List.length_reverse];exact Nat.le_trans (List.dropWhile_sublist _).length_le (by simp)
theorem trimV_len (l:List UInt8):(trimV l).length <= l.length:=Nat.le_trans (rightW_len _) (leftW_len _)
abbrev CSt:=Nat × UInt8 × Bool
def st0:CSt:=(0,0,false)
def cstep (st:CSt) (c:UInt8):CSt × Bool :=
  if st.2.2 = true then ((st.1,st.2.1,false),false)
  else if st.2.1 ≠ 0 then (if c = st.2.1 then ((st.1,0,false),false) else if c = 92 then ((st.1,st.2.1,true),false) else (st,false))
  else if c = 34 \/ c = 39 then ((st.1,c,false),false)
  else if c = 40 then ((st.1 + 1,0,false),false)
  else if c = 41 then ((st.1 - 1,0,false),false)
  else (st,decide (c = 59 /\ st.1 = 0))
def pcs (st:CSt) (cur:List UInt8):List UInt8 -> List (List UInt8)
  | []=>[cur]
  | c :: r=>if (cstep st c).2 = true then cur :: pcs (cstep st c).1 [] r else pcs (cstep st c).1 (cur ++ [c]) r
theorem pcs_end {st:CSt} {c:UInt8} (h:(cstep st c).2 = true) (cur r:List UInt8):pcs st cur (c :: r) = cur :: pcs (cstep st c).1 [] r:=by
 rw [pcs,if_pos h]
theorem pcs_go {st:CSt} {c:UInt8} (h:(cstep st c).2 = false) (cur r:List UInt8):pcs st cur (c :: r) = pcs (cstep st c).1 (cur ++ [c]) r:=by
 rw [pcs,if_neg (by rw [h];decide)]
def pieceW (l:List (List UInt8)):Nat:=(l.map fun p=>p.length + 1).sum
theorem pcs_weight (l:List UInt8):∀ (st:CSt) (cur:List UInt8),pieceW (pcs st cur l) = cur.length + l.length + 1:=by
 induction l with
 | nil=>intro st cur;simp [pcs,pieceW]
 | cons c r ih =>
  intro st cur;cases h:(cstep st c).2 with
  | true =>
   rw [pcs_end h];unfold pieceW at ih ⊢;rw [List.map_cons,List.sum_cons,ih];simp;omega
  | false =>
   rw [pcs_go h,ih];simp;omega
abbrev DeclL:=List UInt8 × List UInt8
def declL (p:List UInt8):Option DeclL :=
  if lowL (trimV (beforeC 58 p)) = [] \/ trimV (afterC 58 p) = [] then none else some (lowL (trimV (beforeC 58 p)),trimV (afterC 58 p))
def cutD (l:List UInt8):List DeclL:=(pcs st0 [] l).filterMap declL
theorem declL_some {p:List UInt8} {d:DeclL} (h:declL p = some d):d.1 = lowL (trimV (beforeC 58 p)) /\ d.2 = trimV (afterC 58 p) /\ d.1 ≠ [] /\ d.2 ≠ []:=by
 unfold declL at h;split at h
 ·cases h
 ·rename_i hn;injection h with h;subst h;exact ⟨rfl,rfl,fun e=>hn (.inl e),fun e=>hn (.inr e)⟩
theorem before_after (l:List UInt8):(beforeC 58 l).length + (afterC 58 l).length <= l.length:=by
 unfold beforeC afterC;have h:=congrArg List.length (List.takeWhile_append_dropWhile (p:=fun x=>x != 58) (l:=l));rw [List.length_append] at h;rw [List.length_drop];omega
theorem declL_len {p:List UInt8} {d:DeclL} (h:declL p = some d):d.1.length + d.2.length <= p.length:=by
 obtain ⟨e1,e2,_⟩:=declL_some h;rw [e1,e2,lowL_length];have h1:=trimV_len (beforeC 58 p);have h2:=trimV_len (afterC 58 p);have h3:=before_after p;omega
def declW (D:List DeclL):Nat:=(D.map fun d=>d.1.length + d.2.length + 1).sum
theorem decl_weight (P:List (List UInt8)):declW (P.filterMap declL) <= pieceW P:=by
 induction P with
 | nil=>exact Nat.le_refl _
 | cons p r ih =>
  rw [List.filterMap_cons];unfold declW pieceW at *;cases h:declL p with
  | none=>simp only [List.map_cons,List.sum_cons];omega
  | some d =>
   have:=declL_len h;simp only [List.map_cons,List.sum_cons];omega
theorem cutD_weight (l:List UInt8):declW (cutD l) <= l.length + 1:=by
 have:=decl_weight (pcs st0 [] l);rw [pcs_weight] at this;unfold cutD;simpa using this
theorem declW_mem {D:List DeclL} {d:DeclL} (h:d ∈ D):d.1.length + d.2.length + 1 <= declW D:=by
 unfold declW
 induction D with
 | nil=>cases h
 | cons a r ih =>
  rw [List.map_cons,List.sum_cons];rcases List.mem_cons.1 h with rfl | h
  ·omega
  ·have:=ih h;omega
theorem declW_len (D:List DeclL):D.length <= declW D:=by
 unfold declW
 induction D with
 | nil=>exact Nat.le_refl _
 | cons a r ih=>rw [List.map_cons,List.sum_cons,List.length_cons];omega
def cssNames:List (List UInt8):=[
  [98,97,99,107,103,114,111,117,110,100,45,99,111,108,111,114],
  [98,111,114,100,101,114],
  [98,111,114,100,101,114,45,98,111,116,116,111,109],
  [98,111,114,100,101,114,45,99,111,108,108,97,112,115,101],
  [98,111,114,100,101,114,45,99,111,108,111,114],
  [98,111,114,100,101,114,45,108,101,102,116],
  [98,111,114,100,101,114,45,114,105,103,104,116],
  [98,111,114,100,101,114,45,115,112,97,99,105,110,103],
  [98,111,114,100,101,114,45,115,116,121,108,101],
  [98,111,114,100,101,114,45,116,111,112],
  [98,111,114,100,101,114,45,119,105,100,116,104],
  [99,111,108,111,114],
  [100,105,114,101,99,116,105,111,110],
  [102,111,110,116,45,115,105,122,101],
  [102,111,110,116,45,115,116,121,108,101],
  [102,111,110,116,45,119,101,105,103,104,116],
  [104,101,105,103,104,116],
  [108,101,116,116,101,114,45,115,112,97,99,105,110,103],
  [108,105,110,101,45,104,101,105,103,104,116],
  [108,105,115,116,45,115,116,121,108,101,45,116,121,112,101],
  [109,97,114,103,105,110],
  [109,97,114,103,105,110,45,98,111,116,116,111,109],
  [109,97,114,103,105,110,45,108,101,102,116],
  [109,97,114,103,105,110,45,114,105,103,104,116],
  [109,97,114,103,105,110,45,116,111,112],
  [109,97,120,45,119,105,100,116,104],
  [112,97,100,100,105,110,103],
  [112,97,100,100,105,110,103,45,98,111,116,116,111,109],
  [112,97,100,100,105,110,103,45,108,101,102,116],
  [112,97,100,100,105,110,103,45,114,105,103,104,116],
  [112,97,100,100,105,110,103,45,116,111,112],
  [116,101,120,116,45,97,108,105,103,110],
  [116,101,120,116,45,100,101,99,111,114,97,116,105,111,110],
  [116,101,120,116,45,105,110,100,101,110,116],
  [116,101,120,116,45,116,114,97,110,115,102,111,114,109],
  [118,101,114,116,105,99,97,108,45,97,108,105,103,110],
  [119,104,105,116,101,45,115,112,97,99,101],
  [119,105,100,116,104]]
def cssMarks:List UInt8:=[32,35,46,37,44,45,43,33]
def safeD (d:DeclL):Bool:=cssNames.contains d.1 && (!d.2.isEmpty && (decide (d.2.length <= 100) && d.2.all (markB cssMarks)))
def lastD:List DeclL -> List DeclL
  | []=>[]
  | d :: r=>if safeD d = true /\ r.any (fun e=>e.1 == d.1 && safeD e) = false then d :: lastD r else lastD r
def showD (d:DeclL):List UInt8:=d.1 ++ 58 :: 32 :: d.2
def joinD:List DeclL -> List UInt8
  | []=>[]
  | [d]=>showD d
  | d :: e :: r=>showD d ++ 59 :: 32 :: joinD (e :: r)
def cleanD (l:List UInt8):List UInt8:=joinD (lastD (cutD l))
theorem lastD_sub (D:List DeclL):(lastD D).Sublist D:=by
 induction D with
 | nil=>exact List.Sublist.refl _
 | cons d r ih =>
  rw [lastD];split
  ·exact ih.cons_cons d
  ·exact ih.cons d
theorem lastD_names (D:List DeclL) (n:List UInt8):(∃ e ∈ lastD D,e.1 = n) ↔ ∃ e ∈ D,e.1 = n /\ safeD e = true:=by
 induction D with
 | nil=>constructor <;> (rintro ⟨e,h,_⟩;cases h)
 | cons a r ih =>
  rw [lastD]
  by_cases ha:safeD a = true /\ r.any (fun e=>e.1 == a.1 && safeD e) = false
  ·rw [if_pos ha];constructor
   ·rintro ⟨e,h,he⟩;rcases List.mem_cons.1 h with rfl | h
    ·exact ⟨e,List.mem_cons_self ..,he,ha.1⟩
    ·obtain ⟨x,hx,hn,hs⟩:=ih.1 ⟨e,h,he⟩;exact ⟨x,List.mem_cons_of_mem _ hx,hn,hs⟩
   ·rintro ⟨e,h,he,hs⟩;rcases List.mem_cons.1 h with rfl | h
    ·exact ⟨e,List.mem_cons_self ..,he⟩
    ·obtain ⟨x,hx,hn⟩:=ih.2 ⟨e,h,he,hs⟩;exact ⟨x,List.mem_cons_of_mem _ hx,hn⟩
  ·rw [if_neg ha];constructor
   ·rintro ⟨e,h,he⟩;obtain ⟨x,hx,hn,hs⟩:=ih.1 ⟨e,h,he⟩;exact ⟨x,List.mem_cons_of_mem _ hx,hn,hs⟩
   ·rintro ⟨e,h,he,hs⟩;rcases List.mem_cons.1 h with rfl | h
    ·have h2:r.any (fun x=>x.1 == e.1 && safeD x) = true:=by
      cases hh:r.any (fun x=>x.1 == e.1 && safeD x) with
      | true=>rfl
      | false=>exact absurd ⟨hs,hh⟩ ha
     obtain ⟨x,hx,hp⟩:=List.any_eq_true.1 h2;rw [Bool.and_eq_true,beq_iff_eq] at hp;exact ih.2 ⟨x,hx,hp.1.trans he,hp.2⟩
    ·exact ih.2 ⟨e,h,he,hs⟩
theorem joinD_len (L:List DeclL):(joinD L).length <= 4 * declW L:=by
 unfold declW
 induction L with
 | nil=>exact Nat.le_refl _
 | cons d r ih =>
  have hs:(showD d).length = d.1.length + d.2.length + 2:=by unfold showD;simp;omega
  cases r with
  | nil =>
   show (showD d).length <= _
   rw [hs];simp;omega
  | cons e r =>
   show (showD d ++ 59 :: 32 :: joinD (e :: r)).length <= _
   rw [List.length_append,hs,List.length_cons,List.length_cons,List.map_cons,List.sum_cons];omega
theorem declW_sub {A B:List DeclL} (h:A.Sublist B):declW A <= declW B:=by
 unfold declW
 induction h with
 | slnil=>exact Nat.le_refl _
 | cons a _ ih=>rw [List.map_cons,List.sum_cons];omega
 | cons_cons a _ ih=>rw [List.map_cons,List.sum_cons,List.map_cons,List.sum_cons];omega
theorem clean_len (l:List UInt8):(cleanD l).length <= 4 * (l.length + 1):=by
 have h1:=joinD_len (lastD (cutD l));have h2:=declW_sub (lastD_sub (cutD l));have h3:=cutD_weight l;unfold cleanD;omega
structure FileL where
  name:List UInt8
  kind:List UInt8
  id:List UInt8
  bytes:List UInt8
def imageL:List UInt8:=[105,109,97,103,101,47]
def attL:List UInt8:=[97,116,116,58]
def imgB (f:FileL):Bool:=imageL.isPrefixOf f.kind
def imgAt (F:List FileL) (n:Nat):Bool:=match F[n]? with
  | some f=>imgB f
  | none=>false
theorem imgAt_lt {F:List FileL} {n:Nat} (h:imgAt F n = true):n < F.length:=by
 rcases Nat.lt_or_ge n F.length with h1 | h1
 ·exact h1
 ·unfold imgAt at h;rw [List.getElem?_eq_none h1] at h;cases h
theorem imgAt_at {F:List FileL} {n:Nat} (h:n < F.length):imgAt F n = imgB F[n]:=by
 unfold imgAt;rw [List.getElem?_eq_getElem h]
theorem imgAt_off {F:List FileL} {n:Nat} (h:F.length <= n):imgAt F n = false:=by
 unfold imgAt;rw [List.getElem?_eq_none h]
def numL (n:Nat):List UInt8:=if n < 10 then [UInt8.ofNat (48 + n)] else [UInt8.ofNat (48 + n / 10),UInt8.ofNat (48 + n % 10)]
theorem dec_num (n:Nat) (h:n < 100):Lib.decDigits n = numL n:=by
 unfold numL
 by_cases h1:n < 10
 ·rw [if_pos h1,Lib.decDigits,dif_pos h1]
 ·rw [if_neg h1,Lib.decDigits,dif_neg h1,Lib.decDigits,dif_pos (by omega)];rfl
def attN (n:Nat):List UInt8:=attL ++ numL n
def dropAtt (l:List UInt8):List UInt8:=if attL.isPrefixOf l = true then l.drop 4 else l
def parse31 (l:List UInt8):Option Nat:=match Lib.parseUintB 31 l with
  | .ok n=>some n
  | _=>none
theorem below100 {p:Nat -> Bool} (h:(List.range 100).all p = true) {n:Nat} (hn:n < 100):p n = true:=List.all_eq_true.1 h n (List.mem_range.2 hn)
theorem parse_att {n:Nat} (hn:n < 100):parse31 (dropAtt (attN n)) = some n:=by
 have:=below100 (p:=fun n=>parse31 (dropAtt (attN n)) == some n) (by decide +kernel) hn
 simpa using this
theorem att_kind (r:List UInt8):lkKind (97 :: 116 :: 116 :: 58 :: r) = 5:=by
 have h:schL ([97,116,116] ++ 58 :: r) = some (lowL [97,116,116],r):=schL_of (by decide) (by decide);rw [show (97 :: 116 :: 116 :: 58 :: r:List UInt8) = [97,116,116] ++ 58 :: r from rfl,lkKind_some h];rfl
theorem attN_kind (n:Nat):lkKind (attN n) = 5:=att_kind _
def byNum (F:List FileL) (c:List UInt8):Option (List UInt8):=match parse31 (dropAtt c) with
  | some n=>if imgAt F n = true /\ attN n = c then some c else none
  | none=>none
def refNum (F:List FileL) (c:List UInt8):Option (List UInt8):=if (List.range F.length).any (fun i=>imgAt F i && (c == attN i)) = true then some c else none
theorem byNum_ref (F:List FileL) (c:List UInt8) (hF:F.length <= 100):byNum F c = refNum F c:=by
 unfold byNum refNum
 by_cases h:(List.range F.length).any (fun i=>imgAt F i && (c == attN i)) = true
 ·rw [if_pos h];obtain ⟨i,hi,h2⟩:=List.any_eq_true.1 h;have hi:=List.mem_range.1 hi;rw [Bool.and_eq_true,beq_iff_eq] at h2;obtain ⟨h2,h3⟩:=h2;rw [h3,parse_att (by omega)];simp [h2]
 ·rw [if_neg h];cases hp:parse31 (dropAtt c) with
  | none=>rfl
  | some n =>
   refine if_neg fun hc=>h (List.any_eq_true.2 ⟨n,List.mem_range.2 (imgAt_lt hc.1),?_⟩)
   rw [hc.1,hc.2];simp
theorem refNum_some {F:List FileL} {c s:List UInt8} (h:refNum F c = some s):s = c /\ ∃ i,i < F.length /\ imgAt F i = true /\ c = attN i:=by
 unfold refNum at h;split at h
 ·rename_i hc;obtain ⟨i,hi,h2⟩:=List.any_eq_true.1 hc;rw [Bool.and_eq_true,beq_iff_eq] at h2;injection h with h;exact ⟨h.symm,i,List.mem_range.1 hi,h2.1,h2.2⟩
 ·cases h
def findK (d:List UInt8):List FileL -> Nat -> Option Nat
  | [],_=>none
  | f :: r,k=>if (f.id == d) = true then some k else findK d r (k + 1)
def findL (F:List FileL) (d:List UInt8):Option Nat:=if d = [] then none else findK d F 0
def byId (F:List FileL) (c:List UInt8):Option (List UInt8):=match findL F (afterC 58 c) with
  | some n=>if imgAt F n = true then some (attN n) else none
  | none=>none
def srcL (rem:Bool) (F:List FileL) (c:List UInt8):Option (List UInt8) :=
  if lkKind c = 4 then byId F c else if lkKind c = 2 then (if rem = true then some c else none) else byNum F c
def srcR (rem:Bool) (F:List FileL) (c:List UInt8):Option (List UInt8) :=
  if lkKind c = 4 then byId F c else if lkKind c = 2 /\ rem = true then some c else refNum F c
theorem refNum_other {F:List FileL} {c:List UInt8} (h:lkKind c ≠ 5):refNum F c = none:=by
 cases hr:refNum F c with
 | none=>rfl
 | some s =>
  obtain ⟨_,i,_,_,rfl⟩:=refNum_some hr;exact absurd (attN_kind i) h
theorem src_ref (rem:Bool) (F:List FileL) (c:List UInt8) (hF:F.length <= 100):srcL rem F c = srcR rem F c:=by
 unfold srcL srcR
 by_cases h4:lkKind c = 4
 ·rw [if_pos h4,if_pos h4]
 ·rw [if_neg h4,if_neg h4]
  by_cases h2:lkKind c = 2
  ·rw [if_pos h2];cases rem with
   | true=>rw [if_pos rfl,if_pos (show lkKind c = 2 /\ true = true from ⟨h2,rfl⟩)]
   | false=>rw [if_neg (by decide),if_neg (show ¬ (lkKind c = 2 /\ false = true) from fun e=>by cases e.2),refNum_other (by omega)]
  ·rw [if_neg h2,if_neg (fun e=>h2 e.1),byNum_ref F c hF]
def keepO (b:Bool) (v:List UInt8):Option (List UInt8):=if b = true then some v else none
def hrefB (v:List UInt8):Bool:=decide (1 <= lkKind (lkClean v)) && decide (lkKind (lkClean v) <= 3)
def styleB (sty:Bool) (v:List UInt8):Bool:=sty && !(cleanD v).isEmpty
def dirB (v:List UInt8):Bool:=v == [108,116,114] || (v == [114,116,108] || v == [97,117,116,111])
def langB (v:List UInt8):Bool:=!v.isEmpty && (decide (v.length <= 20) && v.all (markB [45]))
def digsB (v:List UInt8):Bool:=!v.isEmpty && (decide (v.length <= 4) && v.all digitB)
def n_href:List UInt8:=[104,114,101,102]
def n_src:List UInt8:=[115,114,99]
def n_style:List UInt8:=[115,116,121,108,101]
def n_dir:List UInt8:=[100,105,114]
def n_lang:List UInt8:=[108,97,110,103]
def n_title:List UInt8:=[116,105,116,108,101]
def n_alt:List UInt8:=[97,108,116]
def valN (rem sty:Bool) (F:List FileL) (n v:List UInt8):Option (List UInt8) :=
  if n = n_href then keepO (hrefB v) (lkClean v) else if n = n_src then srcL rem F (lkClean v) else if n = n_style then keepO (styleB sty v) (cleanD v)
  else if n = n_dir then keepO (dirB v) v else if n = n_lang then keepO (langB v) v else if n = n_title then some v else if n = n_alt then some v else keepO (digsB v) v
def valL (rem sty:Bool) (F:List FileL) (e n v:List UInt8):Option (List UInt8):=if attrB e n = true then valN rem sty F n v else none
def loadB (rem:Bool) (c:List UInt8):Bool:=if lkKind c = 1 then true else if lkKind c = 2 then !rem else if lkKind c = 0 then !c.isEmpty else false
def blockB (rem:Bool) (e n v:List UInt8):Bool:=if e = [105,109,103] /\ n = n_src then loadB rem (lkClean v) else false
theorem keepO_some {b:Bool} {v s:List UInt8} (h:keepO b v = some s):b = true /\ s = v:=by
 unfold keepO at h;split at h
 ·rename_i hb;injection h with h;exact ⟨hb,h.symm⟩
 ·cases h
theorem srcL_some {rem:Bool} {F:List FileL} {c s:List UInt8} (hF:F.length <= 100) (h:srcL rem F c = some s) :
  (∃ i,i < F.length /\ imgAt F i = true /\ s = attN i) \/ (rem = true /\ lkKind c = 2 /\ s = c):=by
 rw [src_ref rem F c hF] at h;unfold srcR at h
 by_cases h4:lkKind c = 4
 ·rw [if_pos h4] at h;unfold byId at h;cases hf:findL F (afterC 58 c) with
  | none=>rw [hf] at h;cases h
  | some n =>
   rw [hf] at h;simp only at h;split at h
   ·rename_i hn;injection h with h;exact .inl ⟨n,imgAt_lt hn,hn,h.symm⟩
   ·cases h
 ·rw [if_neg h4] at h
  by_cases h2:lkKind c = 2 /\ rem = true
  ·rw [if_pos h2] at h;injection h with h;exact .inr ⟨h2.2,h2.1,h.symm⟩
  ·rw [if_neg h2] at h;obtain ⟨e,i,h1,h3,h5⟩:=refNum_some h;exact .inl ⟨i,h1,h3,by rw [e,h5]⟩
theorem vStep_pos' (l:List UInt8) (h:l ≠ []):1 <= (vStep l).2 /\ (vStep l).2 <= l.length /\ 1 <= (vStep l).1.length /\ (vStep l).1.length <= 3 * (vStep l).2:=by
 have hw:=wholeN_le l;have hl:=List.length_pos_iff.2 h
 by_cases hz:wholeN l = 0
 ·rw [vStep_zero hz];simp [bad];omega
 ·rw [vStep_pos rfl hz];simp;omega
def validL (l:List UInt8):List UInt8:=if h:l = [] then [] else (vStep l).1 ++ validL (l.drop (vStep l).2)
termination_by l.length
decreasing_by
  have h1:=vStep_pos' l h
  have h2:=List.length_pos_iff.2 h
  rw [List.length_drop];omega
theorem validL_nil:validL [] = []:=by rw [validL];simp
theorem validL_cons {l:List UInt8} (h:l ≠ []):validL l = (vStep l).1 ++ validL (l.drop (vStep l).2):=by rw [validL,dif_neg h]
def allWhole (l:List UInt8):Bool:=if h:wholeN l = 0 then l.isEmpty else allWhole (l.drop (wholeN l))
termination_by l.length
decreasing_by
  have h1:=wholeN_le l
  rw [List.length_drop];omega
theorem allWhole_nil:allWhole [] = true:=by rw [allWhole,dif_pos (show wholeN [] = 0 from rfl)];rfl
theorem allWhole_pos {l:List UInt8} (h:wholeN l ≠ 0):allWhole l = allWhole (l.drop (wholeN l)):=by rw [allWhole,dif_neg h]
theorem allWhole_zero {l:List UInt8} (h:wholeN l = 0) (hl:l ≠ []):allWhole l = false:=by
 rw [allWhole,dif_pos h];cases l with
 | nil=>exact absurd rfl hl
 | cons=>rfl
theorem allWhole_app {p t:List UInt8} (h:wholeN (p ++ t) = p.length) (hp:p ≠ []):allWhole (p ++ t) = allWhole t:=by
 have:=List.length_pos_iff.2 hp;rw [allWhole_pos (by omega),h,List.drop_left]
theorem allWhole_rune (r:Int) (t:List UInt8):allWhole (runeL r ++ t) = allWhole t :=
 allWhole_app (whole_rune r t) (fun e=>by have:=(runeL_length r).1;rw [e] at this;simp at this)
theorem allWhole_bad (t:List UInt8):allWhole (bad ++ t) = allWhole t:=by
 rw [<- runeL_bad'];exact allWhole_rune _ _
theorem allWhole_valid (l:List UInt8):allWhole (validL l) = true:=by
 refine list_ind (p:=fun l=>allWhole (validL l) = true) ?_ l;intro l ih
 by_cases hl:l = []
 ·subst hl;rw [validL_nil];exact allWhole_nil
 ·have hs:=vStep_pos' l hl;rw [validL_cons hl];have hi:=ih (l.drop (vStep l).2) (by rw [List.length_drop];omega)
  by_cases hz:wholeN l = 0
  ·rw [vStep_zero hz] at hi ⊢;rw [allWhole_bad];exact hi
  ·rw [vStep_pos rfl hz] at hi ⊢;have hw:=wholeN_le l;rw [allWhole_app (by rw [whole_local l _ (by omega),List.length_take];omega) (by intro e;have:=congrArg List.length e;rw [List.length_take] at this;have h0:([]:List UInt8).length = 0:=rfl;omega)];exact hi
theorem valid_whole (l:List UInt8) (h:allWhole l = true):validL l = l:=by
 revert h
 refine list_ind (p:=fun l=>allWhole l = true -> validL l = l) ?_ l;intro l ih h
 by_cases hl:l = []
 ·subst hl;exact validL_nil
 ·by_cases hz:wholeN l = 0
  ·rw [allWhole_zero hz hl] at h;cases h
  ·rw [allWhole_pos hz] at h;have hw:=wholeN_le l;rw [validL_cons hl,vStep_pos rfl hz];show l.take (wholeN l) ++ validL (l.drop (wholeN l)) = l
   rw [ih _ (by rw [List.length_drop];omega) h,List.take_append_drop]
theorem validL_length (l:List UInt8):(validL l).length <= 3 * l.length:=by
 refine list_ind (p:=fun l=>(validL l).length <= 3 * l.length) ?_ l;intro l ih
 by_cases hl:l = []
 ·subst hl;rw [validL_nil];simp
 ·have hs:=vStep_pos' l hl;have hi:=ih (l.drop (vStep l).2) (by rw [List.length_drop];omega);rw [List.length_drop] at hi;rw [validL_cons hl,List.length_append];omega
theorem valid_round {L acc T:List UInt8} (h:acc ++ validL L = T) (hi:L ≠ []):(acc ++ (vStep L).1) ++ validL (L.drop (vStep L).2) = T:=by
 rw [<- h,validL_cons hi,List.append_assoc]
def winTab:List Int:=[8364,129,8218,402,8222,8230,8224,8225,710,8240,352,8249,338,141,381,143,144,8216,8217,8220,8221,8226,8211,8212,732,8482,353,8250,339,157,382,376]
def winR (c:UInt8):Int:=if 128 <= c.toNat /\ c.toNat < 160 then winTab.getD (c.toNat - 128) 0 else c.toNat
def winL (l:List UInt8):List UInt8:=l.flatMap fun c=>runeL (winR c)
theorem winL_cons (c:UInt8) (l:List UInt8):winL (c :: l) = runeL (winR c) ++ winL l:=rfl
theorem winR_length (c:UInt8):(runeL (winR c)).length <= 3 :=
 u8_all (p:=fun c=>(runeL (winR c)).length <= 3) (by decide +kernel) c
theorem winR_case (c:UInt8):(c.toNat < 128 /\ winR c = c.toNat) \/ (128 <= c.toNat /\ c.toNat < 160 /\ winR c = winTab.getD (c.toNat - 128) 0) \/ (160 <= c.toNat /\ winR c = c.toNat):=by
 unfold winR
 by_cases h:128 <= c.toNat /\ c.toNat < 160
 ·rw [if_pos h];exact .inr (.inl ⟨h.1,h.2,rfl⟩)
 ·rw [if_neg h]
  by_cases h':c.toNat < 128
  ·exact .inl ⟨h',rfl⟩
  ·exact .inr (.inr ⟨by omega,rfl⟩)
theorem winR_range (c:UInt8):0 <= winR c /\ winR c <= 65535 :=
 u8_all (p:=fun c=>0 <= winR c /\ winR c <= 65535) (by decide +kernel) c
def num (big:Bool) (a b:UInt8):Nat:=if big then 256 * a.toNat + b.toNat else 256 * b.toNat + a.toNat
theorem num_lt (big:Bool) (a b:UInt8):num big a b < 65536:=by
 have:=byte_lt a;have:=byte_lt b
 unfold num;split <;> omega
def unitsL (big:Bool):List UInt8 -> List Nat
  | a :: b :: r=>num big a b :: unitsL big r
  | _=>[]
def pairV (a b:Nat):Int:=65536 + 1024 * ((a:Int) - 55296) + ((b:Int) - 56320)
def u16:List Nat -> List UInt8
  | a :: b :: r=>if 55296 <= a /\ a <= 56319 /\ 56320 <= b /\ b <= 57343 then runeL (pairV a b) ++ u16 r else runeL a ++ u16 (b :: r)
  | [a]=>runeL a
  | []=>[]
def tailL (l:List UInt8):List UInt8:=if l.length % 2 = 1 then bad else []
def pairsL (big:Bool) (l:List UInt8):List UInt8:=u16 (unitsL big l) ++ tailL l
def fsT (big:Bool) (x:Nat):List UInt8 -> Int × Nat
  | c :: d :: _=>if 56320 <= num big c d /\ num big c d < 57344 then (pairV x (num big c d),4) else (65533,2)
  | _=>(65533,2)
def fsS (big:Bool):List UInt8 -> Int × Nat
  | a :: b :: r=>if num big a b < 55296 \/ 57344 <= num big a b then (num big a b,2) else if num big a b < 56320 then fsT big (num big a b) r else (65533,2)
  | _=>(65533,1)
theorem tailL_drop (l:List UInt8) (k:Nat) (h:2 * k <= l.length):tailL (l.drop (2 * k)) = tailL l:=by
 unfold tailL;rw [List.length_drop,show (l.length - 2 * k) % 2 = l.length % 2 from by omega]
theorem pairs_step (big:Bool) (l:List UInt8) (h:2 <= l.length):pairsL big l = runeL (fsS big l).1 ++ pairsL big (l.drop (fsS big l).2) /\ ((fsS big l).2 = 2 \/ (fsS big l).2 = 4) /\ (fsS big l).2 <= l.length /\ 0 <= (fsS big l).1 /\ (fsS big l).1 <= 1114111:=by
 match l,h with
 | a :: b :: r,h =>
  have hn:=num_lt big a b;have ht2:tailL ((a :: b :: r).drop 2) = tailL (a :: b :: r):=tailL_drop _ 1 h
  by_cases h1:num big a b < 55296 \/ 57344 <= num big a b
  ·have e:fsS big (a :: b :: r) = (((num big a b:Nat):Int),2):=by rw [fsS,if_pos h1]
   rw [e];refine ⟨?_,.inl rfl,h,by show (0:Int) <= _;omega,by show ((num big a b:Nat):Int) <= _;omega⟩;unfold pairsL;rw [ht2,<- List.append_assoc]
   congr 1
   show u16 (num big a b :: unitsL big r) = runeL _ ++ u16 (unitsL big r)
   cases unitsL big r with
   | nil=>simp [u16]
   | cons y t=>rw [u16,if_neg (by omega)]
  ·by_cases h2:num big a b < 56320
   ·match r with
    | c :: d :: r =>
     have hm:=num_lt big c d
     by_cases h3:56320 <= num big c d /\ num big c d < 57344
     ·have e:fsS big (a :: b :: c :: d :: r) = (pairV (num big a b) (num big c d),4):=by rw [fsS,if_neg h1,if_pos h2,fsT,if_pos h3]
      rw [e];refine ⟨?_,.inr rfl,by simp,by show 0 <= pairV _ _;unfold pairV;omega,by show pairV _ _ <= _;unfold pairV;omega⟩;have ht4:tailL ((a :: b :: c :: d :: r).drop 4) = tailL (a :: b :: c :: d :: r):=tailL_drop _ 2 (by simp);unfold pairsL;rw [ht4,<- List.append_assoc]
      congr 1
      show u16 (num big a b :: num big c d :: unitsL big r) = runeL _ ++ u16 (unitsL big r)
      rw [u16,if_pos (by omega)]
     ·have e:fsS big (a :: b :: c :: d :: r) = (65533,2):=by rw [fsS,if_neg h1,if_pos h2,fsT,if_neg h3]
      rw [e];refine ⟨?_,.inl rfl,h,by decide,by decide⟩;unfold pairsL;rw [ht2,<- List.append_assoc]
      congr 1
      show u16 (num big a b :: num big c d :: unitsL big r) = runeL _ ++ u16 (num big c d :: unitsL big r)
      rw [u16,if_neg (by omega),runeL_bad',runeL_bad (by omega)]
    | [] =>
     have e:fsS big [a,b] = (65533,2):=by rw [fsS,if_neg h1,if_pos h2];rfl
     rw [e];refine ⟨?_,.inl rfl,h,by decide,by decide⟩;unfold pairsL;rw [ht2,<- List.append_assoc]
     congr 1
     show u16 [num big a b] = runeL _ ++ u16 []
     rw [u16,u16,List.append_nil,runeL_bad',runeL_bad (by omega)]
    | [c] =>
     have e:fsS big [a,b,c] = (65533,2):=by rw [fsS,if_neg h1,if_pos h2];rfl
     rw [e];refine ⟨?_,.inl rfl,h,by decide,by decide⟩;unfold pairsL;rw [ht2,<- List.append_assoc]
     congr 1
     show u16 [num big a b] = runeL _ ++ u16 []
     rw [u16,u16,List.append_nil,runeL_bad',runeL_bad (by omega)]
   ·have e:fsS big (a :: b :: r) = (65533,2):=by rw [fsS,if_neg h1,if_neg h2]
    rw [e];refine ⟨?_,.inl rfl,h,by decide,by decide⟩;unfold pairsL;rw [ht2,<- List.append_assoc]
    congr 1
    show u16 (num big a b :: unitsL big r) = runeL _ ++ u16 (unitsL big r)
    rw [runeL_bad'];cases unitsL big r with
    | nil=>rw [u16,u16,List.append_nil,runeL_bad (by omega)]
    | cons y t=>rw [u16,if_neg (by omega),runeL_bad (by omega)]
theorem pairs_short (big:Bool) (l:List UInt8) (h:l.length < 2):pairsL big l = if l.length = 1 then bad else []:=by
 match l,h with
 | [],_=>rfl
 | [a],_=>rfl
def cleanL (l:List UInt8):List UInt8:=lowL (Lib.trimS l whiteSet)
def labels : List (List UInt8) :=
  [[117, 116, 102, 45, 56], [117, 116, 102, 56], [117, 110, 105, 99, 111, 100, 101, 45, 49, 45, 49, 45, 117, 116, 102, 45, 56],
   [119, 105, 110, 100, 111, 119, 115, 45, 49, 50, 53, 50], [99, 112, 49, 50, 53, 50], [117, 115, 45, 97, 115, 99, 105, 105], [97, 115, 99, 105, 105], [105, 115, 111, 45, 56, 56, 53, 57, 45, 49], [105, 115, 111, 56, 56, 53, 57, 45, 49], [108, 97, 116, 105, 110, 49], [108, 49],
   [117, 116, 102, 45, 49, 54, 108, 101], [117, 116, 102, 45, 49, 54], [117, 110, 105, 99, 111, 100, 101], [117, 99, 115, 45, 50],
   [117, 116, 102, 45, 49, 54, 98, 101], [117, 110, 105, 99, 111, 100, 101, 102, 102, 102, 101]]
def kindOf (x:List UInt8):Nat:=if labels.idxOf x < 3 then 1 else if labels.idxOf x < 11 then 2 else if labels.idxOf x < 15 then 3 else if labels.idxOf x < 17 then 4 else 0
def kindL (l:List UInt8):Nat:=kindOf (cleanL l)
def nameL:Nat -> List UInt8
  | 1=>[117,116,102,45,56]
  | 2=>[119,105,110,100,111,119,115,45,49,50,53,50]
  | 3=>[117,116,102,45,49,54,108,101]
  | 4=>[117,116,102,45,49,54,98,101]
  | _=>[]
theorem kind_lt (l:List UInt8):kindL l < 5:=by
 unfold kindL kindOf;repeat' split
 all_goals omega
def knownV (k:Nat):Value:=.tuple #[.string (str (nameL k)),.bool (decide (0 < k))]
def decodeL (k:Nat) (l:List UInt8):List UInt8:=if k = 2 then winL l else if k = 3 then pairsL false l else if k = 4 then pairsL true l else validL l
abbrev AtL:=List UInt8 × List UInt8
structure NdH where
  name:List UInt8
  attrs:List AtL
  text:List UInt8
deriving DecidableEq
inductive Tr where
  | nil:Tr
  | cons:NdH -> Tr -> Tr -> Tr
deriving DecidableEq
def Tr.len:Tr -> Nat
  | .nil=>0
  | .cons _ _ r=>r.len + 1
def Tr.count:Tr -> Nat
  | .nil=>0
  | .cons _ k r=>1 + k.count + r.count
def Tr.depth:Tr -> Nat
  | .nil=>0
  | .cons _ k r=>max (1 + k.depth) r.depth
def Tr.app:Tr -> Tr -> Tr
  | .nil,t=>t
  | .cons h k r,t=>.cons h k (r.app t)
def Tr.list:Tr -> List (NdH × Tr)
  | .nil=>[]
  | .cons h k r=>(h,k) :: r.list
def Tr.of:List (NdH × Tr) -> Tr
  | []=>.nil
  | (h,k) :: r=>.cons h k (Tr.of r)
def Tr.drop:Nat -> Tr -> Tr
  | 0,t=>t
  | _ + 1,.nil=>.nil
  | n + 1,.cons _ _ r=>Tr.drop n r
theorem Tr.of_list (t:Tr):Tr.of t.list = t:=by induction t with
 | nil=>rfl
 | cons h k r _ ih=>simp [Tr.list,Tr.of,ih]
theorem Tr.list_of (l:List (NdH × Tr)):(Tr.of l).list = l:=by induction l with
 | nil=>rfl
 | cons p r ih=>simp [Tr.list,Tr.of,ih]
theorem Tr.len_list (t:Tr):t.list.length = t.len:=by induction t with
 | nil=>rfl
 | cons h k r _ ih=>simp [Tr.list,Tr.len,ih]
theorem Tr.len_of (l:List (NdH × Tr)):(Tr.of l).len = l.length:=by rw [<- Tr.len_list,Tr.list_of]
theorem Tr.len_count (t:Tr):t.len <= t.count:=by induction t with
 | nil=>exact Nat.le_refl _
 | cons h k r _ ih=>simp only [Tr.len,Tr.count];omega
theorem Tr.list_inj {a b:Tr} (h:a.list = b.list):a = b:=by rw [<- Tr.of_list a,h,Tr.of_list]
theorem Tr.drop_cons (n:Nat) (t:Tr) (h:n < t.len):∃ p k,Tr.drop n t = .cons p k (Tr.drop (n + 1) t) /\ t.list[n]? = some (p,k):=by
 induction n generalizing t with
 | zero=>cases t with
  | nil=>exact absurd h (Nat.not_lt_zero _)
  | cons p k r=>exact ⟨p,k,rfl,rfl⟩
 | succ n ih=>cases t with
  | nil=>exact absurd h (Nat.not_lt_zero _)
  | cons p k r =>
   obtain ⟨p',k',h1,h2⟩:=ih r (by simp only [Tr.len] at h;omega);exact ⟨p',k',h1,by simpa [Tr.list] using h2⟩
theorem Tr.at_count {t:Tr} {n:Nat} {p:NdH} {k:Tr} (h:t.list[n]? = some (p,k)):k.count < t.count:=by
 induction n generalizing t with
 | zero=>cases t with
  | nil=>cases h
  | cons h' k' r=>simp [Tr.list] at h;obtain ⟨rfl,rfl⟩:=h;simp only [Tr.count];omega
 | succ n ih=>cases t with
  | nil=>cases h
  | cons h' k' r=>have:=ih (t:=r) (by simpa [Tr.list] using h);simp only [Tr.count];omega
def Tr.all (f:NdH -> Bool):Tr -> Bool
  | .nil=>true
  | .cons h k r=>f h && (k.all f && r.all f)
theorem Tr.all_at {f:NdH -> Bool} {t:Tr} {n:Nat} {p:NdH} {k:Tr} (ha:t.all f = true) (h:t.list[n]? = some (p,k)):f p = true /\ k.all f = true:=by
 induction n generalizing t with
 | zero=>cases t with
  | nil=>cases h
  | cons h' k' r =>
   simp only [Tr.all,Bool.and_eq_true] at ha;simp [Tr.list] at h;obtain ⟨rfl,rfl⟩:=h;exact ⟨ha.1,ha.2.1⟩
 | succ n ih=>cases t with
  | nil=>cases h
  | cons h' k' r =>
   simp only [Tr.all,Bool.and_eq_true] at ha;exact ih (t:=r) ha.2.2 (by simpa [Tr.list] using h)
def wn_a:List UInt8:=[97]
def wn_img:List UInt8:=[105,109,103]
def wn_rel:List UInt8:=[114,101,108]
def wn_stranger:List UInt8:=[110,111,111,112,101,110,101,114,32,110,111,114,101,102,101,114,114,101,114]
def wn_picture:List UInt8:=[112,105,99,116,117,114,101]
def wn_width:List UInt8:=[119,105,100,116,104]
def wn_height:List UInt8:=[104,101,105,103,104,116]
def firstA:List AtL -> List UInt8 -> Option (List UInt8)
  | [],_=>none
  | a :: r,n=>if a.1 = n then some a.2 else firstA r n
def pixA (a:AtL):Bool:=(decide (a.1 = wn_width) || decide (a.1 = wn_height)) && (decide (a.2 = [48]) || decide (a.2 = [49]))
def pixB (A:List AtL):Bool:=A.any pixA
def blkB (rem:Bool) (e:List UInt8) (A:List AtL):Bool:=A.any fun a=>blockB rem e a.1 a.2
def altL (A:List AtL):List UInt8:=if (firstA A n_alt).getD [] = [] then wn_picture else (firstA A n_alt).getD []
def signT (A:List AtL):List UInt8:=91 :: (validL (altL A) ++ [93])
def elemA (rem sty:Bool) (F:List FileL) (e:List UInt8):List AtL -> List AtL -> List AtL
  | acc,[]=>acc
  | acc,a :: r=>elemA rem sty F e (if (firstA acc a.1).isSome = true then acc else match valL rem sty F e a.1 a.2 with
      | some v=>acc ++ [(a.1,validL v)]
      | none=>acc) r
def elemW (rem sty:Bool) (F:List FileL) (h:NdH):NdH:=⟨h.name,elemA rem sty F h.name [] h.attrs,[]⟩
def linkA (A:List AtL):List AtL:=if (firstA A n_href).isSome = true then A ++ [(wn_rel,wn_stranger)] else A
def linkW (rem sty:Bool) (F:List FileL) (h:NdH):NdH:=⟨h.name,linkA (elemA rem sty F h.name [] h.attrs),[]⟩
abbrev WashL:=List (NdH × Tr) × List UInt8
def wEnd (s:WashL):List (NdH × Tr):=if s.2 = [] then s.1 else s.1 ++ [(⟨[],[],s.2⟩,.nil)]
def wAdd (s:WashL) (p:NdH × Tr):WashL:=(wEnd s ++ [p],[])
def wTxt (s:WashL) (t:List UInt8):WashL:=(s.1,s.2 ++ t)
def wPic (rem sty:Bool) (F:List FileL) (h:NdH) (s:WashL):WashL :=
  if pixB h.attrs = true then s else if blkB rem h.name h.attrs = true then wTxt s (signT h.attrs)
  else if (firstA (elemW rem sty F h).attrs n_src).isSome = true then wAdd s (elemW rem sty F h,.nil) else s
def washL (void:List UInt8 -> Bool) (rem sty:Bool) (F:List FileL):Bool -> Tr -> WashL -> WashL
  | _,.nil,s=>s
  | lk,.cons h K R,s=>washL void rem sty F lk R (
      if h.name = [] then wTxt s (validL h.text)
      else if elemN h.name = 0 then s
      else if elemN h.name = 1 \/ (h.name = wn_a /\ lk = true) then washL void rem sty F lk K s
      else if h.name = wn_a then wAdd s (linkW rem sty F h,Tr.of (wEnd (washL void rem sty F true K ([],[]))))
      else if h.name = wn_img then wPic rem sty F h s
      else if void h.name = true then wAdd s (elemW rem sty F h,.nil)
      else wAdd s (elemW rem sty F h,Tr.of (wEnd (washL void rem sty F lk K ([],[])))))
def washT (void:List UInt8 -> Bool) (rem sty:Bool) (F:List FileL) (T:Tr):Tr:=Tr.of (wEnd (washL void rem sty F false T ([],[])))
def blkT (rem:Bool):Tr -> Nat
  | .nil=>0
  | .cons h K R=>(if elemN h.name = 0 then 0 else (if blkB rem h.name h.attrs = true /\ pixB h.attrs = false then 1 else 0) + blkT rem K) + blkT rem R
structure TokL where
  kind:Nat
  name:List UInt8
  attrs:List AtL
  text:List UInt8
def whB (c:UInt8):Bool:=c == 32 || (c == 9 || (c == 10 || (c == 12 || c == 13)))
def whs (c:UInt8):Bool:=whB c || c == 47
def nameEndB (c:UInt8):Bool:=whB c || (c == 47 || c == 62)
def attrEndB (c:UInt8):Bool:=nameEndB c || c == 61
def valueEndB (c:UInt8):Bool:=whB c || c == 62
def upL (p:UInt8 -> Bool) (l:List UInt8):List UInt8 × List UInt8:=(l.takeWhile fun c=>!p c,l.dropWhile fun c=>!p c)
theorem upL_len (p:UInt8 -> Bool) (l:List UInt8):(upL p l).1.length + (upL p l).2.length = l.length:=by
 unfold upL;rw [<- List.length_append,List.takeWhile_append_dropWhile]
theorem drop_len (p:UInt8 -> Bool) (l:List UInt8):(l.dropWhile p).length <= l.length:=(List.dropWhile_sublist p).length_le
theorem afterC_le13 (c:UInt8) (l:List UInt8):(afterC c l).length <= l.length:=by
 unfold afterC;have:=drop_len (fun x=>x != c) l
 rw [List.length_drop];omega
def valueL (l:List UInt8):List UInt8 × List UInt8:=match l with
  | []=>([],[])
  | c :: r=>if c = 34 then (beforeC 34 r,afterC 34 r) else if c = 39 then (beforeC 39 r,afterC 39 r) else upL valueEndB (c :: r)
theorem valueL_len (l:List UInt8):(valueL l).2.length <= l.length:=by
 unfold valueL;cases l with
 | nil=>exact Nat.le_refl _
 | cons c r =>
  simp only;split
  ·have:=afterC_le13 34 r;simp only [List.length_cons];omega
  ·split
   ·have:=afterC_le13 39 r;simp only [List.length_cons];omega
   ·have:=upL_len valueEndB (c :: r);omega
def attrL (dec:List UInt8 -> List UInt8) (l:List UInt8):AtL × List UInt8:=match l with
  | []=>(([],[]),[])
  | c :: r =>
    match (upL attrEndB r).2.dropWhile whB with
    | 61 :: b=>((lowL (c :: (upL attrEndB r).1),dec (valueL (b.dropWhile whB)).1),(valueL (b.dropWhile whB)).2)
    | _=>((lowL (c :: (upL attrEndB r).1),[]),(upL attrEndB r).2)
theorem attrL_len (dec:List UInt8 -> List UInt8) (c:UInt8) (r:List UInt8):(attrL dec (c :: r)).2.length <= r.length:=by
 have h1:=upL_len attrEndB r;have h2:=drop_len whB (upL attrEndB r).2;unfold attrL;simp only;split
 ·rename_i b hb;rw [hb] at h2;have h3:=drop_len whB b;have h4:=valueL_len (b.dropWhile whB);simp only [List.length_cons] at h2;show (valueL (b.dropWhile whB)).2.length <= _
  omega
 ·show (upL attrEndB r).2.length <= _
  omega
def countsB (A:List AtL) (n:List UInt8):Bool:=decide (A.length < 30) && !(A.any fun a=>a.1 == n)
def attrsLL (dec:List UInt8 -> List UInt8) (A:List AtL) (l:List UInt8):Option (List AtL × List UInt8) :=
  match h:l.dropWhile whs with
  | []=>none
  | c :: r =>
    if c = 62 then some (A,r)
    else attrsLL dec (if countsB A (attrL dec (c :: r)).1.1 = true then A ++ [(attrL dec (c :: r)).1] else A) (attrL dec (c :: r)).2
termination_by l.length
decreasing_by
  have h1:=drop_len whs l
  rw [h] at h1
  have h2:=attrL_len dec c r
  simp only [List.length_cons] at h1
  omega
theorem attrsLL_nil {dec:List UInt8 -> List UInt8} {A:List AtL} {l:List UInt8} (h:l.dropWhile whs = []):attrsLL dec A l = none:=by
 rw [attrsLL];split
 ·rfl
 ·rename_i c r h2;rw [h] at h2;cases h2
theorem attrsLL_end {dec:List UInt8 -> List UInt8} {A:List AtL} {l r:List UInt8} (h:l.dropWhile whs = 62 :: r):attrsLL dec A l = some (A,r):=by
 rw [attrsLL];split
 ·rename_i h2;rw [h] at h2;cases h2
 ·rename_i c r2 h2;rw [h] at h2;injection h2 with h3 h4;subst h3 h4;rw [if_pos rfl]
theorem attrsLL_go {dec:List UInt8 -> List UInt8} {A:List AtL} {l r:List UInt8} {c:UInt8} (h:l.dropWhile whs = c :: r) (hc:c ≠ 62) :
  attrsLL dec A l = attrsLL dec (if countsB A (attrL dec (c :: r)).1.1 = true then A ++ [(attrL dec (c :: r)).1] else A) (attrL dec (c :: r)).2:=by
 rw [attrsLL];split
 ·rename_i h2;rw [h] at h2;cases h2
 ·rename_i c2 r2 h2;rw [h] at h2;injection h2 with h3 h4;subst h3 h4;rw [if_neg hc]
theorem attrsLL_ind (dec:List UInt8 -> List UInt8) {P:List AtL -> List UInt8 -> Prop}
  (hstep:∀ A l c r,l.dropWhile whs = c :: r -> c ≠ 62 -> P A l -> P (if countsB A (attrL dec (c :: r)).1.1 = true then A ++ [(attrL dec (c :: r)).1] else A) (attrL dec (c :: r)).2) :
  ∀ (k:Nat) (A:List AtL) (l:List UInt8),l.length <= k -> P A l -> ∀ B b,attrsLL dec A l = some (B,b) -> ∃ l',P B l' /\ l'.dropWhile whs = 62 :: b:=by
 intro k
 induction k with
 | zero =>
  intro A l hl hP B b hb;obtain rfl:l = []:=List.eq_nil_of_length_eq_zero (by omega);rw [attrsLL_nil rfl] at hb;cases hb
 | succ k ih =>
  intro A l hl hP B b hb;cases hd:l.dropWhile whs with
  | nil=>rw [attrsLL_nil hd] at hb;cases hb
  | cons c r =>
   have h1:=drop_len whs l;rw [hd] at h1;simp only [List.length_cons] at h1
   by_cases hc:c = 62
   ·subst hc;rw [attrsLL_end hd] at hb;injection hb with hb;injection hb with hb1 hb2;subst hb1 hb2;exact ⟨l,hP,hd⟩
   ·rw [attrsLL_go hd hc] at hb;have h2:=attrL_len dec c r;exact ih _ _ (by omega) (hstep A l c r hd hc hP) B b hb
theorem attrsLL_len {dec:List UInt8 -> List UInt8} {A:List AtL} {l:List UInt8} {B:List AtL} {b:List UInt8} (h:attrsLL dec A l = some (B,b)):b.length < l.length:=by
 obtain ⟨l',h1,h2⟩:=attrsLL_ind dec (P:=fun _ x=>x.length <= l.length) (fun A x c r hx hc hP=>by
  have h1:=drop_len whs x;rw [hx] at h1;simp only [List.length_cons] at h1;have h2:=attrL_len dec c r;omega) l.length A l (Nat.le_refl _) (Nat.le_refl _) B b h
 have h3:=drop_len whs l';rw [h2] at h3;simp only [List.length_cons] at h3;omega
def tagL (dec:List UInt8 -> List UInt8) (l:List UInt8):Option (List UInt8 × List AtL × List UInt8) :=
  match attrsLL dec [] (upL nameEndB l).2 with
  | none=>none
  | some (A,b)=>some (lowL (upL nameEndB l).1,A,b)
theorem tagL_len {dec:List UInt8 -> List UInt8} {l n b:List UInt8} {A:List AtL} (h:tagL dec l = some (n,A,b)):b.length < l.length:=by
 unfold tagL at h;have h1:=upL_len nameEndB l;cases ha:attrsLL dec [] (upL nameEndB l).2 with
 | none=>rw [ha] at h;cases h
 | some p =>
  obtain ⟨B,x⟩:=p;rw [ha] at h;have h2:=attrsLL_len ha;injection h with h;injection h with _ h;injection h with _ h;rw [<- h];omega
def rawEndB (n l:List UInt8):Bool:=match l with
  | 60 :: 47 :: r=>decide (n.length < r.length) && (lowL (r.take n.length) == n && nameEndB (r.getD n.length 0))
  | _=>false
def rawN (n:List UInt8):List UInt8 -> Nat
  | []=>0
  | c :: r=>if rawEndB n (c :: r) = true then 0 else rawN n r + 1
def plainText:List UInt8:=[112,108,97,105,110,116,101,120,116]
def rawSizeL (n l:List UInt8):Nat:=if n = plainText then l.length else rawN n l
theorem rawN_le (n:List UInt8):∀ l,rawN n l <= l.length
 | []=>Nat.le_refl _
 | c :: r=>by
  unfold rawN;split
  ·exact Nat.zero_le _
  ·have:=rawN_le n r;simp only [List.length_cons];omega
theorem rawSizeL_le (n l:List UInt8):rawSizeL n l <= l.length:=by
 unfold rawSizeL;split
 ·exact Nat.le_refl _
 ·exact rawN_le n l
def isMarkB (l:List UInt8):Bool:=match l with
  | 60 :: c :: r=>if c = 33 \/ c = 63 then true else if c = 47 then !r.isEmpty else letterB c
  | _=>false
def markN:List UInt8 -> Nat
  | []=>0
  | c :: r=>if isMarkB (c :: r) = true then 0 else markN r + 1
theorem markN_le:∀ l,markN l <= l.length
 | []=>Nat.le_refl _
 | c :: r=>by
  unfold markN;split
  ·exact Nat.zero_le _
  ·have:=markN_le r;simp only [List.length_cons];omega
theorem markN_zero {c:UInt8} {r:List UInt8} (h:markN (c :: r) = 0):isMarkB (c :: r) = true:=by
 unfold markN at h;split at h
 ·assumption
 ·omega
def charsT (x:List UInt8):TokL:=⟨1,[],[],x⟩
def startT (n:List UInt8) (A:List AtL):TokL:=⟨2,n,A,[]⟩
def endT (n:List UInt8):TokL:=⟨3,n,[],[]⟩
def remT (x:List UInt8):TokL:=⟨4,[],[],x⟩
def cutAt (t:List UInt8):List UInt8 -> List UInt8 × List UInt8
  | []=>([],[])
  | c :: r=>if t.isPrefixOf (c :: r) = true then ([],(c :: r).drop t.length) else (c :: (cutAt t r).1,(cutAt t r).2)
theorem cutAt_len (t:List UInt8):∀ l,(cutAt t l).2.length <= l.length
 | []=>Nat.le_refl _
 | c :: r=>by
  unfold cutAt;split
  ·show ((c :: r).drop t.length).length <= _
   rw [List.length_drop];omega
  ·have:=cutAt_len t r;simp only [List.length_cons];omega
def remEnd:List UInt8:=[45,45,62]
abbrev MarkR:=Option TokL × List UInt8 × List UInt8
def startL (dec:List UInt8 -> List UInt8) (l:List UInt8):MarkR:=match tagL dec l with
  | none=>(none,[],[])
  | some (n,A,b)=>if rawL.contains n = true then (some (startT n A),b.take (rawSizeL n b),b.drop (rawSizeL n b)) else (some (startT n A),[],b)
def endL (dec:List UInt8 -> List UInt8) (l:List UInt8):MarkR:=match tagL dec l with
  | none=>(none,[],[])
  | some (n,A,b)=>(some (endT n),[],b)
def remL (l:List UInt8):MarkR:=(some (remT (beforeC 62 l)),[],afterC 62 l)
def longL (l:List UInt8):MarkR:=match l with
  | 62 :: b=>(some (remT []),[],b)
  | 45 :: 62 :: b=>(some (remT []),[],b)
  | _=>(some (remT (cutAt remEnd l).1),[],(cutAt remEnd l).2)
def markL (dec:List UInt8 -> List UInt8) (l:List UInt8):MarkR:=match l with
  | 47 :: r=>match r with
    | []=>(none,[],[])
    | c :: q=>if letterB c = true then endL dec (c :: q) else if c = 62 then (none,[],q) else remL (c :: q)
  | 33 :: r=>match r with
    | 45 :: 45 :: b=>longL b
    | _=>remL r
  | 63 :: r=>remL (63 :: r)
  | _=>startL dec l
theorem markL_end {dec:List UInt8 -> List UInt8} {c:UInt8} (h:letterB c = true) (r:List UInt8):markL dec (47 :: c :: r) = endL dec (c :: r):=if_pos h
theorem remL_len (l:List UInt8):(remL l).2.2.length <= l.length:=afterC_le13 62 l
theorem longL_len (l:List UInt8):(longL l).2.2.length <= l.length:=by
 unfold longL;split
 ·simp only [List.length_cons];omega
 ·simp only [List.length_cons];omega
 ·exact cutAt_len remEnd l
theorem startL_len (dec:List UInt8 -> List UInt8) (l:List UInt8):(startL dec l).2.2.length <= l.length:=by
 unfold startL;cases h:tagL dec l with
 | none=>exact Nat.zero_le _
 | some p =>
  obtain ⟨n,A,b⟩:=p;have:=tagL_len h;simp only;split
  ·show (b.drop _).length <= _
   rw [List.length_drop];omega
  ·show b.length <= _
   omega
theorem endL_len (dec:List UInt8 -> List UInt8) (l:List UInt8):(endL dec l).2.2.length <= l.length:=by
 unfold endL;cases h:tagL dec l with
 | none=>exact Nat.zero_le _
 | some p =>
  obtain ⟨n,A,b⟩:=p;have:=tagL_len h;show b.length <= _
  omega
theorem markL_len (dec:List UInt8 -> List UInt8) (l:List UInt8):(markL dec l).2.2.length <= l.length:=by
 unfold markL;split
 ·rename_i r;split
  ·exact Nat.zero_le _
  ·rename_i c q;split
   ·have:=endL_len dec (c :: q);simp only [List.length_cons] at this ⊢;omega
   ·split
    ·simp only [List.length_cons];omega
    ·have:=remL_len (c :: q);simp only [List.length_cons] at this ⊢;omega
 ·rename_i r;split
  ·rename_i b;have:=longL_len b;simp only [List.length_cons];omega
  ·have:=remL_len r;simp only [List.length_cons];omega
 ·rename_i r;exact remL_len (63 :: r)
 ·exact startL_len dec l
def flushT (L:List TokL) (x:List UInt8):List TokL:=if x = [] then L else L ++ [charsT x]
def addT (L:List TokL) (x:List UInt8) (m:MarkR):List TokL × List UInt8:=match m.1 with
  | none=>(L,x ++ m.2.1)
  | some t=>(flushT L x ++ [t],m.2.1)
def scanL (dec:List UInt8 -> List UInt8) (L:List TokL) (x:List UInt8) (l:List UInt8):List TokL :=
  match h:l with
  | []=>flushT L x
  | c :: r =>
    if h2:0 < markN (c :: r) then scanL dec L (x ++ dec ((c :: r).take (markN (c :: r)))) ((c :: r).drop (markN (c :: r)))
    else scanL dec (addT L x (markL dec r)).1 (addT L x (markL dec r)).2 (markL dec r).2.2
termination_by l.length
decreasing_by
  · rw [List.length_drop]
    have:=markN_le (c :: r)
    simp only [List.length_cons] at this ⊢
    omega
  · have:=markL_len dec r
    simp only [List.length_cons]
    omega
theorem scanL_nil (dec:List UInt8 -> List UInt8) (L:List TokL) (x:List UInt8):scanL dec L x [] = flushT L x:=by rw [scanL]
theorem scanL_text (dec:List UInt8 -> List UInt8) (L:List TokL) (x:List UInt8) {c:UInt8} {r:List UInt8} (h:0 < markN (c :: r)) :
  scanL dec L x (c :: r) = scanL dec L (x ++ dec ((c :: r).take (markN (c :: r)))) ((c :: r).drop (markN (c :: r))):=by
 rw [scanL,dif_pos h]
theorem scanL_mark (dec:List UInt8 -> List UInt8) (L:List TokL) (x:List UInt8) {c:UInt8} {r:List UInt8} (h:isMarkB (c :: r) = true) :
  scanL dec L x (c :: r) = scanL dec (addT L x (markL dec r)).1 (addT L x (markL dec r)).2 (markL dec r).2.2:=by
 have h0:markN (c :: r) = 0:=by unfold markN;rw [if_pos h]
 rw [scanL,dif_neg (by rw [h0];exact Nat.lt_irrefl 0)]
def atVals (l:List AtL):List Value:=l.flatMap fun f=>[Value.string (str f.1),Value.string (str f.2)]
theorem atVals_at {l:List AtL} {j:Nat} {f:AtL} (h:l[j]? = some f):(atVals l)[j * 2]? = some (.string (str f.1)) /\ (atVals l)[j * 2 + 1]? = some (.string (str f.2)):=by
 induction l generalizing j with
 | nil=>simp at h
 | cons g r ih =>
  cases j with
  | zero=>simp at h;subst h;exact ⟨rfl,rfl⟩
  | succ j =>
   have:=ih (j:=j) (by simpa using h);have e:atVals (g :: r) = Value.string (str g.1) :: Value.string (str g.2) :: atVals r:=rfl;rw [e,show (j + 1) * 2 = j * 2 + 1 + 1 by omega]
   simpa using this
theorem atVals_append (a b:List AtL):atVals (a ++ b) = atVals a ++ atVals b:=by unfold atVals;rw [List.flatMap_append]
def ABuf (B:Nat) (v:Value) (l:List AtL) (W0 w:World):Prop :=
  w.ownsRow B 47 2 v l.length (atVals l) /\ Below B W0 w /\ B <= w.heap.size
theorem info_at:(Tryz.prog.info? 47).map (fun i=>(i.zero,i.size,i.bytes)) = some (some (.agg #[.string ByteArray.empty,.string ByteArray.empty]),2,32):=by kernel_rfl
theorem ABuf.nil {B:Nat} {W0 w:World} (hb:Below B W0 w) (hB:B <= w.heap.size):ABuf B (.slice none 0 0) [] W0 w:=⟨World.ownsRow_nil w B _ 2,hb,hB⟩
theorem ABuf.below {B:Nat} {v:Value} {l:List AtL} {W0 w:World} (h:ABuf B v l W0 w):Below B W0 w:=h.2.1
theorem ABuf.grown {B:Nat} {v v':Value} {l l':List AtL} {W0 w w':World} (h:ABuf B v l W0 w) (ho:w'.ownsRow B 47 2 v' l'.length (atVals l')) (hg:w.grownBy w' v.ownBlock):ABuf B v' l' W0 w' :=
 ⟨ho,h.2.1.grown hg h.2.2 (fun k hk=>(h.1.lt k hk).1),Nat.le_trans h.2.2 hg.size⟩
theorem ABuf.alloc {B:Nat} {v:Value} {l:List AtL} {W0 w:World} (h:ABuf B v l W0 w) (o:Obj):ABuf B v l W0 (w.alloc o) :=
 ⟨h.1.alloc o,h.2.1.alloc h.2.2 o,Nat.le_trans h.2.2 ((Below.refl 0 w).alloc (Nat.zero_le _) o).size⟩
theorem ABuf.drew {B:Nat} {v:Value} {l:List AtL} {W0 w:World} (h:ABuf B v l W0 w):ABuf B v l W0 w.drew:=⟨h.1,h.2.1.drew,h.2.2⟩
theorem ABuf.kept {B:Nat} {v:Value} {l:List AtL} {W0 w w':World} (h:ABuf B v l W0 w) (hb:Below w.heap.size w w'):ABuf B v l W0 w' :=
 ⟨h.1.kept (row:=none) ⟨hb.os,hb.tape,hb.output,hb.size,fun k hk _=>hb.block k hk⟩ (by cases hv:v.ownBlock <;> simp),h.2.1.trans (hb.mono h.2.2),Nat.le_trans h.2.2 hb.size⟩
theorem ABuf.slice_len {B:Nat} {v:Value} {l:List AtL} {W0 w:World} (h:ABuf B v l W0 w):∃ A c,v = .slice A l.length c:=by
 rcases h.1.2 with ⟨rfl,h0⟩ | ⟨g,cap,cur,rfl,_⟩
 ·rw [h0];exact ⟨_,_,rfl⟩
 ·exact ⟨_,_,rfl⟩
theorem ABuf.form {B:Nat} {v:Value} {l:List AtL} {W0 w:World} (h:ABuf B v l W0 w) (hl:l ≠ []):∃ g cap,v = .slice (some ⟨g,0,none⟩) l.length cap /\ B <= g:=by
 rcases h.1.2 with ⟨rfl,h0⟩ | ⟨g,cap,cur,rfl,hg,_⟩
 ·exact absurd (List.eq_nil_of_length_eq_zero h0) hl
 ·exact ⟨g,cap,rfl,hg⟩
theorem wpList_ats {ops:Array Oper} {rest:List Oper} {o:Oper} {a:Act} {Q:Exit -> Act -> World -> Prop} {w:World} (hgd:o.guard = none) (s x:Operand)
  (ho:o.op = .call { callee:=.builtin .append,args:=#[s,x],argTypes:=#[34,34] })
  (B:Nat) (v:Value) (l:List AtL) (hs:a.eval s = v) (W0:World) (f:AtL) (hb:ABuf B v l W0 w) (ad:Addr)
  (hx:a.eval x = .slice (some ad) 1 1) (h0:w.cell? (ad.add 0) = some (.string (str f.1))) (h1:w.cell? (ad.add 1) = some (.string (str f.2))) (hlen:l.length + 1 <= 4398046511104)
  (h:∀ v' w',ABuf B v' (l ++ [f]) W0 w' -> wpList Tryz.prog ops Q rest (a.put o.dst v') w'):wpList Tryz.prog ops Q (o :: rest) a w:=by
 obtain ⟨i0,hi,hz0,hz1,hz2⟩:=info_parts info_at;refine wpList_append_own _ hgd s x 34 ho B 47 i0 (.agg #[.string ByteArray.empty,.string ByteArray.empty]) 2 32 Tryz.underlying34 hi hz0 hz1 hz2 rfl (by decide) v l.length (atVals l) hs hb.1 ad 1 1 [.string (str f.1),.string (str f.2)] hx rfl ?_ ?_ (by unfold maxLen;omega) (by omega) hb.2.2 ?_
 ·intro j u hj
  match j,hj with
  | 0,hj=>simp at hj;subst hj;exact h0
  | 1,hj=>simp at hj;subst hj;exact h1
  | (j + 2),hj=>simp at hj
 ·intro u hu;simp at hu;rcases hu with rfl | rfl
  ·rfl
  ·rfl
 ·intro v' w' ho' hg _;exact h v' w' (hb.grown (l':=l ++ [f]) (by rw [atVals_append,List.length_append];exact ho') hg)
theorem ownsRow_other {w:World} {B:Nat} {e:TypeId} {sz n:Nat} {v:Value} {xs:List Value} (h:w.ownsRow B e sz v n xs) {r:Nat} (hr:∀ cur,w.heap[r]? ≠ some (.cells cur e (0,0))):v.ownBlock ≠ some r:=by
 rcases h.2 with ⟨rfl,_⟩ | ⟨g,cap,cur,rfl,hg,hh,_⟩
 ·simp [Value.ownBlock]
 ·intro e2;simp [Value.ownBlock] at e2;subst e2;exact hr cur hh
theorem ownsRow_diff {w:World} {B B':Nat} {e e':TypeId} (he:e ≠ e') {sz sz' n n':Nat} {v v':Value} {xs xs':List Value} (h:w.ownsRow B e sz v n xs) (h':w.ownsRow B' e' sz' v' n' xs'):v.ownBlock = none \/ v.ownBlock ≠ v'.ownBlock:=by
 rcases h'.2 with ⟨rfl,_⟩ | ⟨g,cap,cur,rfl,hg,hh,_⟩
 ·cases hv:v.ownBlock
  ·exact .inl rfl
  ·exact .inr (by simp [Value.ownBlock])
 ·refine .inr ?_
  have:=ownsRow_other h (r:=g) (fun cur' e2=>by
   rw [hh] at e2;injection e2 with e2;injection e2 with _ e2;exact he e2.symm)
  simpa [Value.ownBlock] using this
theorem ownsRow_down {w:World} {B B':Nat} {e:TypeId} {sz n:Nat} {v:Value} {xs:List Value} (h:w.ownsRow B e sz v n xs) (hB:B' <= B):w.ownsRow B' e sz v n xs:=by
 refine ⟨h.1,?_⟩;rcases h.2 with h2 | ⟨g,cap,cur,h1,hg,h3⟩
 ·exact .inl h2
 ·exact .inr ⟨g,cap,cur,h1,Nat.le_trans hB hg,h3⟩
abbrev TokV:=TokL × Value
def tokVals (ls:List TokV):List Value:=ls.flatMap fun p=>[.int .i64 (p.1.kind:Int),.string (str p.1.name),p.2,.string (str p.1.text)]
theorem tokVals_append (a b:List TokV):tokVals (a ++ b) = tokVals a ++ tokVals b:=by unfold tokVals;rw [List.flatMap_append]
theorem tokVals_at {l:List TokV} {j:Nat} {p:TokV} (h:l[j]? = some p):(tokVals l)[j * 4]? = some (.int .i64 (p.1.kind:Int)) /\ (tokVals l)[j * 4 + 1]? = some (.string (str p.1.name)) /\ (tokVals l)[j * 4 + 2]? = some p.2 /\ (tokVals l)[j * 4 + 3]? = some (.string (str p.1.text)):=by
 induction l generalizing j with
 | nil=>simp at h
 | cons g r ih =>
  cases j with
  | zero=>simp at h;subst h;exact ⟨rfl,rfl,rfl,rfl⟩
  | succ j =>
   have:=ih (j:=j) (by simpa using h);have e:tokVals (g :: r) = .int .i64 (g.1.kind:Int) :: .string (str g.1.name) :: g.2 :: .string (str g.1.text) :: tokVals r:=rfl;rw [e,show (j + 1) * 4 = j * 4 + 1 + 1 + 1 + 1 by omega]
   simpa using this
structure TRow (B:Nat) (v:Value) (ls:List TokV) (w:World):Prop where
  row:w.ownsRow B 71 4 v ls.length (tokVals ls)
  each:∀ p ∈ ls,w.ownsRow B 47 2 p.2 p.1.attrs.length (atVals p.1.attrs)
theorem TRow.nil (B:Nat) (w:World):TRow B (.slice none 0 0) [] w:=⟨World.ownsRow_nil w B _ 4,fun p h=>by cases h⟩
theorem TRow.turned {B:Nat} {v:Value} {ls:List TokV} {w w':World} {row:Option Nat} (h:TRow B v ls w) (hg:w.grownBy w' row)
  (hr:∀ r,row = some r -> ∀ cur,w.heap[r]? ≠ some (.cells cur 71 (0,0)) /\ w.heap[r]? ≠ some (.cells cur 47 (0,0))):TRow B v ls w':=by
 refine ⟨h.row.kept hg ?_,fun p hp=>(h.each p hp).kept hg ?_⟩
 ·cases row with
  | none=>cases hv:v.ownBlock <;> simp
  | some r=>exact .inr (ownsRow_other h.row fun cur=>(hr r rfl cur).1)
 ·cases row with
  | none=>cases hv:p.2.ownBlock <;> simp
  | some r=>exact .inr (ownsRow_other (h.each p hp) fun cur=>(hr r rfl cur).2)
theorem TRow.kept {B:Nat} {v:Value} {ls:List TokV} {w w':World} (h:TRow B v ls w) (hb:Below w.heap.size w w'):TRow B v ls w' :=
 h.turned (row:=none) ⟨hb.os,hb.tape,hb.output,hb.size,fun k hk _=>hb.block k hk⟩ (fun r e=>by cases e)
theorem TRow.alloc {B:Nat} {v:Value} {ls:List TokV} {w:World} (h:TRow B v ls w) (o:Obj):TRow B v ls (w.alloc o):=h.turned (World.grownBy_alloc w o none) (fun r e=>by cases e)
theorem TRow.push {B:Nat} {v v' u:Value} {ls:List TokV} {w w':World} {t:TokL} (h:TRow B v ls w) (hu:w.ownsRow B 47 2 u t.attrs.length (atVals t.attrs))
  (ho:w'.ownsRow B 71 4 v' (ls.length + 1) (tokVals ls ++ tokVals [(t,u)])) (hg:w.grownBy w' v.ownBlock):TRow B v' (ls ++ [(t,u)]) w':=by
 refine ⟨by rw [tokVals_append,List.length_append];exact ho,fun p hp=>?_⟩;have hne:∀ {y:Value} {k:Nat} {xs:List Value},w.ownsRow B 47 2 y k xs -> w'.ownsRow B 47 2 y k xs:=fun hy=>hy.kept hg (ownsRow_diff (by decide) hy h.row)
 rcases List.mem_append.1 hp with hp | hp
 ·exact hne (h.each p hp)
 ·obtain rfl:=List.mem_singleton.1 hp;exact hne hu
theorem TRow.slice_len {B:Nat} {v:Value} {ls:List TokV} {w:World} (h:TRow B v ls w):∃ A c,v = .slice A ls.length c:=by
 rcases h.row.2 with ⟨rfl,h0⟩ | ⟨g,cap,cur,rfl,_⟩
 ·rw [h0];exact ⟨_,_,rfl⟩
 ·exact ⟨_,_,rfl⟩
theorem info_tok:(Tryz.prog.info? 71).map (fun i=>(i.zero,i.size,i.bytes)) = some (some (.agg #[.int .i64 0,.string ByteArray.empty,.slice none 0 0,.string ByteArray.empty]),4,64):=by kernel_rfl
def AttrsIn (w:World) (v:Value) (l:List AtL):Prop :=
  (v = .slice none 0 0 /\ l = []) \/ ∃ a cap,v = .slice (some a) l.length cap /\ l.length <= cap /\ cap <= maxLen /\
    ∀ j (f:AtL),l[j]? = some f -> w.cell? (a.add (j * 2)) = some (.string (str f.1)) /\ w.cell? (a.add (j * 2 + 1)) = some (.string (str f.2))
theorem AttrsIn.kept {w w':World} {v:Value} {l:List AtL} (h:AttrsIn w v l) (hb:Below w.heap.size w w'):AttrsIn w' v l:=by
 rcases h with h | ⟨a,cap,h1,h2,h3,h4⟩
 ·exact .inl h
 ·refine .inr ⟨a,cap,h1,h2,h3,fun j f hj=>?_⟩;obtain ⟨c1,c2⟩:=h4 j f hj;exact ⟨(hb.cell (World.block_lt_of_cell? _ _ c1)).trans c1,(hb.cell (World.block_lt_of_cell? _ _ c2)).trans c2⟩
theorem AttrsIn.form {w:World} {v:Value} {l:List AtL} (h:AttrsIn w v l):∃ a cap,v = .slice a l.length cap:=by
 rcases h with ⟨rfl,rfl⟩ | ⟨a,cap,rfl,_⟩
 ·exact ⟨_,_,rfl⟩
 ·exact ⟨_,_,rfl⟩
theorem AttrsIn.at {w:World} {A:Option Addr} {n cap:Nat} {l:List AtL} (h:AttrsIn w (.slice A n cap) l) (k:Nat) (f:AtL) (hk:l[k]? = some f) :
  ∃ a,A = some a /\ w.cell? (a.add (k * 2)) = some (.string (str f.1)) /\ w.cell? { block:=(a.add (k * 2)).block,off:=(a.add (k * 2)).off + 1 } = some (.string (str f.2)):=by
 rcases h with ⟨_,rfl⟩ | ⟨a,cap',h1,_,_,h4⟩
 ·cases hk
 ·injection h1 with h1 _ _;have e3:({ block:=(a.add (k * 2)).block,off:=(a.add (k * 2)).off + 1 }:Addr) = a.add (k * 2 + 1):=by rw [<- Addr.add_add];rfl
  obtain ⟨c1,c2⟩:=h4 k f hk;exact ⟨a,h1,c1,by rw [e3];exact c2⟩
theorem attrs_of_row {B:Nat} {w:World} {v:Value} {l:List AtL} (h:w.ownsRow B 47 2 v l.length (atVals l)):AttrsIn w v l:=by
 rcases h.2 with ⟨rfl,h0⟩ | ⟨g,cap,cur,rfl,hg,hh,h1,h2,h3,h4⟩
 ·exact .inl ⟨rfl,List.eq_nil_of_length_eq_zero h0⟩
 ·refine .inr ⟨⟨g,0,none⟩,cap,rfl,h1,h2,fun j f hj=>?_⟩;obtain ⟨c1,c2⟩:=atVals_at hj;exact ⟨h.cells (g:=g) rfl _ _ c1,h.cells (g:=g) rfl _ _ c2⟩
abbrev TokG:=Int × TokL
def ToksIn (w:World) (v:Value) (l:List TokG):Prop :=
  (v = .slice none 0 0 /\ l = []) \/ ∃ a cap,v = .slice (some a) l.length cap /\ l.length <= cap /\ cap <= maxLen /\
    ∀ j (f:TokG),l[j]? = some f -> w.cell? (a.add (j * 4)) = some (.int .i64 f.1) /\ w.cell? (a.add (j * 4 + 1)) = some (.string (str f.2.name)) /\ w.cell? (a.add (j * 4 + 3)) = some (.string (str f.2.text)) /\
      ∃ u,w.cell? (a.add (j * 4 + 2)) = some u /\ AttrsIn w u f.2.attrs
theorem ToksIn.kept {w w':World} {v:Value} {l:List TokG} (h:ToksIn w v l) (hb:Below w.heap.size w w'):ToksIn w' v l:=by
 rcases h with h | ⟨a,cap,h1,h2,h3,h4⟩
 ·exact .inl h
 ·refine .inr ⟨a,cap,h1,h2,h3,fun j f hj=>?_⟩;obtain ⟨c1,c2,c3,u,c4,hu⟩:=h4 j f hj;exact ⟨(hb.cell (World.block_lt_of_cell? _ _ c1)).trans c1,(hb.cell (World.block_lt_of_cell? _ _ c2)).trans c2,(hb.cell (World.block_lt_of_cell? _ _ c3)).trans c3,u,(hb.cell (World.block_lt_of_cell? _ _ c4)).trans c4,hu.kept hb⟩
theorem ToksIn.form {w:World} {v:Value} {l:List TokG} (h:ToksIn w v l):∃ a cap,v = .slice a l.length cap:=by
 rcases h with ⟨rfl,rfl⟩ | ⟨a,cap,rfl,_⟩
 ·exact ⟨_,_,rfl⟩
 ·exact ⟨_,_,rfl⟩
theorem ToksIn.at {w:World} {A:Option Addr} {n cap:Nat} {l:List TokG} (h:ToksIn w (.slice A n cap) l) (k:Nat) (f:TokG) (hk:l[k]? = some f) :
  ∃ a d y,A = some a /\ w.cell? (a.add (k * 4)) = some (.int .i64 f.1) /\ w.cell? { block:=(a.add (k * 4)).block,off:=(a.add (k * 4)).off + 1 } = some (.string (str f.2.name)) /\ w.cell? { block:=(a.add (k * 4)).block,off:=(a.add (k * 4)).off + 3 } = some (.string (str f.2.text)) /\
   w.cell? { block:=(a.add (k * 4)).block,off:=(a.add (k * 4)).off + 2 } = some (.slice d f.2.attrs.length y) /\ AttrsIn w (.slice d f.2.attrs.length y) f.2.attrs:=by
 rcases h with ⟨_,rfl⟩ | ⟨a,cap',h1,_,_,h4⟩
 ·cases hk
 ·injection h1 with h1 _ _;have e1:({ block:=(a.add (k * 4)).block,off:=(a.add (k * 4)).off + 1 }:Addr) = a.add (k * 4 + 1):=by rw [<- Addr.add_add];rfl
  have e2:({ block:=(a.add (k * 4)).block,off:=(a.add (k * 4)).off + 2 }:Addr) = a.add (k * 4 + 2):=by rw [<- Addr.add_add];rfl
  have e3:({ block:=(a.add (k * 4)).block,off:=(a.add (k * 4)).off + 3 }:Addr) = a.add (k * 4 + 3):=by rw [<- Addr.add_add];rfl
  obtain ⟨c1,c2,c3,u,c4,hu⟩:=h4 k f hk;obtain ⟨d,y,rfl⟩:=hu.form;exact ⟨a,d,y,h1,c1,by rw [e1];exact c2,by rw [e3];exact c3,by rw [e2];exact c4,hu⟩
theorem attrs_lit {w:World} {g:Nat} {T:TypeId} {fz:Nat × Nat} (l:List AtL) (h:w.heap[g]? = some (.cells (atVals l).toArray T fz)) (hl:l.length <= maxLen):AttrsIn w (.slice (some ⟨g,0,none⟩) l.length l.length) l:=by
 refine .inr ⟨⟨g,0,none⟩,l.length,rfl,Nat.le_refl _,hl,fun j f hj=>?_⟩;obtain ⟨c1,c2⟩:=atVals_at hj
 have hc:∀ (i:Nat) (x:Value),(atVals l)[i]? = some x -> w.cell? ((⟨g,0,none⟩:Addr).add i) = some x:=fun i x hx=>by
  rw [Addr.add_lit,Lib.cell_of_heap h,List.getElem?_toArray];simpa using hx
 exact ⟨hc _ _ c1,hc _ _ c2⟩
def AttrsC (C:Nat -> Prop) (w:World) (v:Value) (l:List AtL):Prop :=
  AttrsIn w v l /\ ∀ a n c,v = .slice (some a) n c -> l ≠ [] -> C a.block
def NodesAt (C:Nat -> Prop) (w:World):Tr -> Addr -> Prop
  | .nil,_=>True
  | .cons h k r,a =>
    C a.block /\ w.cell? a = some (.string (str h.name)) /\ w.cell? (a.add 2) = some (.string (str h.text)) /\
    (∃ u,w.cell? (a.add 1) = some u /\ AttrsC C w u h.attrs) /\
    (∃ v,w.cell? (a.add 3) = some v /\ ((v = .slice none 0 0 /\ k = .nil) \/ ∃ a' cap,v = .slice (some a') k.len cap /\ k.len <= cap /\ cap <= maxLen /\ NodesAt C w k a')) /\
    NodesAt C w r (a.add 4)
def NodesC (C:Nat -> Prop) (w:World) (v:Value) (t:Tr):Prop :=
  (v = .slice none 0 0 /\ t = .nil) \/ ∃ a cap,v = .slice (some a) t.len cap /\ t.len <= cap /\ cap <= maxLen /\ NodesAt C w t a
def NodesIn (w:World) (v:Value) (t:Tr):Prop:=NodesC (fun b=>b < w.heap.size) w v t
theorem cell_same {w w':World} {C:Nat -> Prop} (hk:∀ b,C b -> w'.heap[b]? = w.heap[b]?) {a:Addr} (h:C a.block):w'.cell? a = w.cell? a:=World.cell?_of_block (hk _ h)
theorem addr_add_block (a:Addr) (n:Nat):(a.add n).block = a.block:=by unfold Addr.add;split <;> rfl
theorem AttrsC.mono {C C':Nat -> Prop} {w w':World} {v:Value} {l:List AtL} (h:AttrsC C w v l) (hk:∀ b,C b -> w'.heap[b]? = w.heap[b]?) (hC:∀ b,C b -> C' b):AttrsC C' w' v l:=by
 refine ⟨?_,fun a n c e hl=>hC _ (h.2 a n c e hl)⟩;rcases h.1 with ⟨h1,h2⟩ | ⟨a,cap,rfl,h2,h3,h4⟩
 ·exact .inl ⟨h1,h2⟩
 ·refine .inr ⟨a,cap,rfl,h2,h3,fun j f hj=>?_⟩;have hc:=h.2 a _ _ rfl (fun e=>by rw [e] at hj;cases hj);obtain ⟨c1,c2⟩:=h4 j f hj;exact ⟨(cell_same hk (by rw [addr_add_block];exact hc)).trans c1,(cell_same hk (by rw [addr_add_block];exact hc)).trans c2⟩
theorem NodesAt.mono {C C':Nat -> Prop} {w w':World} (hk:∀ b,C b -> w'.heap[b]? = w.heap[b]?) (hC:∀ b,C b -> C' b) {t:Tr} {a:Addr} (h:NodesAt C w t a):NodesAt C' w' t a:=by
 induction t generalizing a with
 | nil=>trivial
 | cons p k r ihk ihr =>
  obtain ⟨h0,h1,h2,⟨u,h3,h4⟩,⟨v,h5,h6⟩,h7⟩:=h;refine ⟨hC _ h0,(cell_same hk h0).trans h1,(cell_same hk (by rw [addr_add_block];exact h0)).trans h2,⟨u,(cell_same hk (by rw [addr_add_block];exact h0)).trans h3,h4.mono hk hC⟩,⟨v,(cell_same hk (by rw [addr_add_block];exact h0)).trans h5,?_⟩,ihr h7⟩;rcases h6 with h6 | ⟨a',cap,e1,e2,e3,e4⟩
  ·exact .inl h6
  ·exact .inr ⟨a',cap,e1,e2,e3,ihk e4⟩
theorem NodesC.mono {C C':Nat -> Prop} {w w':World} {v:Value} {t:Tr} (h:NodesC C w v t) (hk:∀ b,C b -> w'.heap[b]? = w.heap[b]?) (hC:∀ b,C b -> C' b):NodesC C' w' v t:=by
 rcases h with h | ⟨a,cap,h1,h2,h3,h4⟩
 ·exact .inl h
 ·exact .inr ⟨a,cap,h1,h2,h3,h4.mono hk hC⟩
theorem NodesIn.kept {w w':World} {v:Value} {t:Tr} (h:NodesIn w v t) (hb:Below w.heap.size w w'):NodesIn w' v t :=
 NodesC.mono h (fun b hlt=>hb.block b hlt) (fun b hlt=>Nat.lt_of_lt_of_le hlt hb.size)
theorem NodesC.form {C:Nat -> Prop} {w:World} {v:Value} {t:Tr} (h:NodesC C w v t):∃ a cap,v = .slice a t.len cap:=by
 rcases h with ⟨rfl,rfl⟩ | ⟨a,cap,rfl,_⟩
 ·exact ⟨_,_,rfl⟩
 ·exact ⟨_,_,rfl⟩
theorem NodesC.cap {C:Nat -> Prop} {w:World} {A:Option Addr} {n c:Nat} {t:Tr} (h:NodesC C w (.slice A n c) t):n = t.len /\ n <= c /\ c <= maxLen:=by
 rcases h with ⟨h1,rfl⟩ | ⟨a,cap,h1,h2,h3,h4⟩
 ·injection h1 with _ h2 h3;subst h2 h3;exact ⟨rfl,Nat.le_refl _,Nat.zero_le _⟩
 ·injection h1 with _ e2 e3;subst e2 e3;exact ⟨rfl,h2,h3⟩
theorem NodesAt.drop {C:Nat -> Prop} {w:World} {t:Tr} {a:Addr} (h:NodesAt C w t a) (n:Nat) (hn:n <= t.len):NodesAt C w (Tr.drop n t) (a.add (n * 4)):=by
 induction n generalizing t a with
 | zero=>rw [Nat.zero_mul,Addr.add_zero'];exact h
 | succ n ih=>cases t with
  | nil=>exact absurd hn (Nat.not_succ_le_zero _)
  | cons p k r =>
   have:=ih (t:=r) h.2.2.2.2.2 (by simp only [Tr.len] at hn;omega);rw [Addr.add_add] at this;rw [show (n + 1) * 4 = 4 + n * 4 by omega];exact this
theorem NodesC.at {C:Nat -> Prop} {w:World} {A:Option Addr} {n cap:Nat} {t:Tr} (h:NodesC C w (.slice A n cap) t) (k:Nat) (p:NdH) (K:Tr) (hk:t.list[k]? = some (p,K)) :
  ∃ a d x y z m,A = some a /\ C a.block /\ w.cell? (a.add (k * 4)) = some (.string (str p.name)) /\ w.cell? { block:=(a.add (k * 4)).block,off:=(a.add (k * 4)).off + 1 } = some (.slice d p.attrs.length y) /\ AttrsC C w (.slice d p.attrs.length y) p.attrs /\
   w.cell? { block:=(a.add (k * 4)).block,off:=(a.add (k * 4)).off + 2 } = some (.string (str p.text)) /\ w.cell? { block:=(a.add (k * 4)).block,off:=(a.add (k * 4)).off + 3 } = some (.slice x m z) /\ m = K.len /\ NodesC C w (.slice x m z) K:=by
 have hlt:k < t.len:=by
  rw [<- Tr.len_list];rcases Nat.lt_or_ge k t.list.length with h1 | h1
  ·exact h1
  ·rw [List.getElem?_eq_none h1] at hk;cases hk
 rcases h with ⟨_,rfl⟩ | ⟨a,cap',h1,_,_,h4⟩
 ·cases hk
 ·injection h1 with h1 _ _;have hd:=h4.drop k (Nat.le_of_lt hlt);obtain ⟨p',K',he,hp⟩:=Tr.drop_cons k t hlt;rw [hk] at hp;injection hp with hp;obtain ⟨rfl,rfl⟩:p = p' /\ K = K':=by injection hp with e1 e2;exact ⟨e1,e2⟩
  rw [he] at hd;obtain ⟨g0,g1,g2,⟨u,g3,g4⟩,⟨v,g5,g6⟩,_⟩:=hd;have e1:({ block:=(a.add (k * 4)).block,off:=(a.add (k * 4)).off + 1 }:Addr) = (a.add (k * 4)).add 1:=by rfl
  have e2:({ block:=(a.add (k * 4)).block,off:=(a.add (k * 4)).off + 2 }:Addr) = (a.add (k * 4)).add 2:=by rfl
  have e3:({ block:=(a.add (k * 4)).block,off:=(a.add (k * 4)).off + 3 }:Addr) = (a.add (k * 4)).add 3:=by rfl
  obtain ⟨d,y,rfl⟩:=g4.1.form;have hN:NodesC C w v K:=g6;obtain ⟨x,z,rfl⟩:=hN.form;exact ⟨a,d,x,y,z,_,h1,by rw [addr_add_block] at g0;exact g0,g1,by rw [e1];exact g3,g4,by rw [e2];exact g2,by rw [e3];exact g5,rfl,hN⟩
def voidL:List (List UInt8):=[[97,114,101,97],[98,97,115,101],[98,114],[99,111,108],[101,109,98,101,100],[104,114],[105,109,103],[105,110,112,117,116],[108,105,110,107],[109,101,116,97],[115,111,117,114,99,101],[116,114,97,99,107],[119,98,114]]
def blockNL:List (List UInt8):=[[97,100,100,114,101,115,115],[97,114,116,105,99,108,101],[97,115,105,100,101],[98,108,111,99,107,113,117,111,116,101],[99,101,110,116,101,114],[100,101,116,97,105,108,115],[100,105,118],[100,108],[102,105,101,108,100,115,101,116],[102,105,103,117,114,101],[102,111,111,116,101,114],[102,111,114,109],[104,101,97,100,101,114],[104,114],[108,105],[109,97,105,110],[110,97,118],[111,108],[112],[112,114,101],[115,101,99,116,105,111,110],[116,97,98,108,101],[117,108],[100,100],[100,116],[104,49],[104,50],[104,51],[104,52],[104,53],[104,54]]
def wallL:List (List UInt8):=[[116,97,98,108,101],[98,117,116,116,111,110],[117,108],[111,108],[100,108],[115,118,103],[109,97,116,104],[116,101,109,112,108,97,116,101],[111,98,106,101,99,116],[97,112,112,108,101,116],[109,97,114,113,117,101,101]]
def headNL:List (List UInt8):=[[104,49],[104,50],[104,51],[104,52],[104,53],[104,54]]
def sameL:List (List UInt8):=[[108,105],[97],[111,112,116,105,111,110],[116,114],[110,111,98,114],[98,117,116,116,111,110]]
def voidB (n:List UInt8):Bool:=voidL.contains n
def wallB (n:List UInt8):Bool:=wallL.contains n
def blockNB (n:List UInt8):Bool:=blockNL.contains n
def headNB (n:List UInt8):Bool:=headNL.contains n
def closesB (n o:List UInt8):Bool :=
  if o = [112] then blockNB n
  else if o = [100,100] \/ o = [100,116] then decide (n = [100,100] \/ n = [100,116])
  else if o = [116,100] \/ o = [116,104] then decide (n = [116,100] \/ n = [116,104] \/ n = [116,114])
  else if sameL.contains o then decide (n = o)
  else headNB o && headNB n
structure PartL where
  name:List UInt8
  attrs:List AtL
  kids:List (NdH × Tr)
  tail:List UInt8
deriving DecidableEq
def rootL:PartL:=⟨[],[],[],[]⟩
def textNd (x:List UInt8):NdH × Tr:=(⟨[],[],x⟩,.nil)
def endTextL (p:PartL):PartL:=if p.tail = [] then p else { p with kids:=p.kids ++ [textNd p.tail],tail:=[] }
def PartL.node (p:PartL):NdH × Tr:=(⟨p.name,p.attrs,[]⟩,Tr.of p.kids)
def closeTop:List PartL -> List PartL
  | p :: q :: r=>{ q with kids:=q.kids ++ [(endTextL p).node] } :: r
  | st=>st
def closeN:Nat -> List PartL -> List PartL
  | 0,st=>st
  | n + 1,st=>closeN n (closeTop st)
def findP (is:List UInt8 -> Bool):List PartL -> Option Nat
  | p :: q :: r=>if is p.name = true then some 1 else if wallB p.name = true then none else (findP is (q :: r)).map (· + 1)
  | _=>none
def closeAll (is:List UInt8 -> Bool):Nat -> List PartL -> List PartL
  | 0,st=>st
  | f + 1,st=>match findP is st with
    | none=>st
    | some n=>closeAll is f (closeN n st)
abbrev BsL:=List PartL × Nat
def charsP (x:List UInt8) (s:BsL):BsL:=match s.1 with
  | []=>s
  | p :: r=>if p.tail = [] then (if s.2 = 5000 then s else ({ p with tail:=x } :: r,s.2 + 1)) else ({ p with tail:=p.tail ++ x } :: r,s.2)
def putP (t:TokL) (st:List PartL) (n:Nat):BsL:=match st with
  | []=>(st,n)
  | p :: r=>if voidB t.name = true \/ 30 < st.length then ({ endTextL p with kids:=(endTextL p).kids ++ [(⟨t.name,t.attrs,[]⟩,Tr.nil)] } :: r,n + 1)
    else (⟨t.name,t.attrs,[],[]⟩ :: endTextL p :: r,n + 1)
def startP (t:TokL) (s:BsL):BsL :=
  if s.2 = 5000 then (closeAll (closesB t.name) s.1.length s.1,s.2) else putP t (closeAll (closesB t.name) s.1.length s.1) s.2
def endP (n:List UInt8) (s:BsL):BsL:=match findP (fun o=>o == n) s.1 with
  | none=>s
  | some k=>(closeN k s.1,s.2)
def tokB (s:BsL) (t:TokL):BsL:=if t.kind = 1 then charsP t.text s else if t.kind = 2 then startP t s else if t.kind = 3 then endP t.name s else s
def endTree (st:List PartL):Tr:=match closeN (st.length - 1) st with
  | p :: _=>Tr.of (endTextL p).kids
  | []=>.nil
def buildP (L:List TokL):Tr:=endTree (L.foldl tokB ([rootL],0)).1
theorem closeTop_length (st:List PartL):(closeTop st).length = if 2 <= st.length then st.length - 1 else st.length:=by
 match st with
 | []=>rfl
 | [p]=>rfl
 | p :: q :: r=>simp [closeTop]
theorem closeN_length (n:Nat) (st:List PartL) (h:n < st.length):(closeN n st).length = st.length - n:=by
 induction n generalizing st with
 | zero=>rfl
 | succ n ih =>
  rw [closeN,ih _ (by rw [closeTop_length,if_pos (by omega)];omega),closeTop_length,if_pos (by omega)];omega
theorem findP_lt {is:List UInt8 -> Bool} {st:List PartL} {n:Nat} (h:findP is st = some n):0 < n /\ n < st.length:=by
 induction st generalizing n with
 | nil=>cases h
 | cons p r ih=>cases r with
  | nil=>cases h
  | cons q r =>
   simp only [findP] at h;split at h
   ·injection h with h;subst h;simp
   ·split at h
    ·cases h
    ·obtain ⟨m,h1,rfl⟩:=Option.map_eq_some_iff.1 h;have:=ih h1;simp only [List.length_cons] at this ⊢;omega
theorem closeAll_length (is:List UInt8 -> Bool) (f:Nat) (st:List PartL):(closeAll is f st).length <= st.length /\ (st ≠ [] -> closeAll is f st ≠ []):=by
 induction f generalizing st with
 | zero=>exact ⟨Nat.le_refl _,id⟩
 | succ f ih =>
  rw [closeAll];split
  ·exact ⟨Nat.le_refl _,id⟩
  ·rename_i n h;obtain ⟨h1,h2⟩:=findP_lt h;have h3:=closeN_length n st h2;have h4:=ih (closeN n st);refine ⟨by omega,fun _=>h4.2 (fun e=>by rw [e] at h3;simp only [List.length_nil] at h3;omega)⟩
theorem closeAll_more (is:List UInt8 -> Bool) (f g:Nat) (st:List PartL) (h:st.length <= f + 1) (hg:f <= g):closeAll is g st = closeAll is f st:=by
 induction f generalizing g st with
 | zero =>
  have hn:findP is st = none:=by
   match st,h with
   | [],_=>rfl
   | [p],_=>rfl
  cases g with
  | zero=>rfl
  | succ g=>simp only [closeAll,hn]
 | succ f ih =>
  obtain ⟨g,rfl⟩:∃ g',g = g' + 1:=⟨g - 1,by omega⟩
  rw [closeAll,closeAll];cases hn:findP is st with
  | none=>rfl
  | some n =>
   obtain ⟨h1,h2⟩:=findP_lt hn;exact ih g _ (by rw [closeN_length n st h2];omega) (by omega)
theorem closeAll_step {is:List UInt8 -> Bool} {st:List PartL} {n:Nat} (h:findP is st = some n):closeAll is st.length st = closeAll is (closeN n st).length (closeN n st):=by
 obtain ⟨h1,h2⟩:=findP_lt h;have h3:=closeN_length n st h2;obtain ⟨k,hk⟩:∃ k,st.length = k + 1:=⟨st.length - 1,by omega⟩
 rw [hk,closeAll,h];exact closeAll_more is _ _ _ (by omega) (by omega)
theorem closeAll_none {is:List UInt8 -> Bool} {st:List PartL} (h:findP is st = none):closeAll is st.length st = st:=by
 cases hl:st.length with
 | zero=>rfl
 | succ k=>rw [closeAll,h]
def kidsW (l:List (NdH × Tr)):Nat:=(Tr.of l).count
theorem kidsW_append (a b:List (NdH × Tr)):kidsW (a ++ b) = kidsW a + kidsW b:=by
 induction a with
 | nil=>simp [kidsW,Tr.of,Tr.count]
 | cons p r ih=>obtain ⟨h,k⟩:=p;simp only [kidsW,List.cons_append,Tr.of,Tr.count] at ih ⊢;omega
theorem kidsW_len (l:List (NdH × Tr)):l.length <= kidsW l:=by rw [<- Tr.len_of];exact Tr.len_count _
def tailW (x:List UInt8):Nat:=if x = [] then 0 else 1
def PartL.wt (p:PartL):Nat:=kidsW p.kids + tailW p.tail
def stW:List PartL -> Nat
  | []=>0
  | [p]=>p.wt
  | p :: r=>p.wt + 1 + stW r
theorem stW_cons (p q:PartL) (r:List PartL):stW (p :: q :: r) = p.wt + 1 + stW (q :: r):=rfl
theorem endText_wt (p:PartL):(endTextL p).wt = p.wt:=by
 unfold endTextL;split
 ·rfl
 ·rename_i h;simp only [PartL.wt,kidsW_append,tailW,if_neg h,if_true];simp [kidsW,textNd,Tr.of,Tr.count]
theorem endText_tail (p:PartL):(endTextL p).tail = []:=by unfold endTextL;split <;> first | assumption | rfl
theorem endText_kids_wt (p:PartL):kidsW (endTextL p).kids = p.wt:=by
 have:=endText_wt p;rw [<- this,PartL.wt,endText_tail];rfl
theorem node_wt (p:PartL):kidsW [p.node] = 1 + kidsW p.kids:=by simp [kidsW,PartL.node,Tr.of,Tr.count]
theorem closeTop_wt (st:List PartL):stW (closeTop st) = stW st:=by
 match st with
 | []=>rfl
 | [p]=>rfl
 | p :: q :: r =>
  have h1:({ q with kids:=q.kids ++ [(endTextL p).node] }:PartL).wt = q.wt + (1 + p.wt):=by
   simp only [PartL.wt,kidsW_append,node_wt,endText_kids_wt];omega
  cases r with
  | nil=>show PartL.wt _ = p.wt + 1 + q.wt;rw [h1];omega
  | cons x y=>show PartL.wt _ + 1 + stW (x :: y) = p.wt + 1 + (q.wt + 1 + stW (x :: y));rw [h1];omega
theorem closeN_wt (n:Nat) (st:List PartL):stW (closeN n st) = stW st:=by
 induction n generalizing st with
 | zero=>rfl
 | succ n ih=>rw [closeN,ih,closeTop_wt]
theorem closeAll_wt (is:List UInt8 -> Bool) (f:Nat) (st:List PartL):stW (closeAll is f st) = stW st:=by
 induction f generalizing st with
 | zero=>rfl
 | succ f ih =>
  rw [closeAll];split
  ·rfl
  ·rw [ih,closeN_wt]
theorem stW_head {p p':PartL} (r:List PartL) (k:Nat) (h:p'.wt = p.wt + k):stW (p' :: r) = stW (p :: r) + k:=by
 cases r with
 | nil=>exact h
 | cons q r=>rw [stW_cons,stW_cons,h];omega
theorem putP_cons (t:TokL) (p:PartL) (r:List PartL) (n:Nat):putP t (p :: r) n = if voidB t.name = true \/ 30 < (p :: r).length then ({ endTextL p with kids:=(endTextL p).kids ++ [(⟨t.name,t.attrs,[]⟩,Tr.nil)] } :: r,n + 1)
  else (⟨t.name,t.attrs,[],[]⟩ :: endTextL p :: r,n + 1):=rfl
theorem charsP_cons (x:List UInt8) (p:PartL) (r:List PartL) (n:Nat):charsP x (p :: r,n) = if p.tail = [] then (if n = 5000 then (p :: r,n) else ({ p with tail:=x } :: r,n + 1)) else ({ p with tail:=p.tail ++ x } :: r,n):=rfl
theorem put_wt (t:TokL) (st:List PartL) (n:Nat) (hs:st ≠ []):stW (putP t st n).1 = stW st + 1 /\ (putP t st n).2 = n + 1 /\ (putP t st n).1 ≠ [] /\ (putP t st n).1.length <= max st.length 31:=by
 match st,hs with
 | p :: r,_ =>
  rw [putP_cons];split
  ·refine ⟨?_,rfl,by simp,by simp only [List.length_cons];omega⟩;refine stW_head r 1 ?_;have:=endText_wt p;unfold PartL.wt at this ⊢;rw [kidsW_append,<- this];simp only [kidsW,Tr.of,Tr.count];omega
  ·rename_i hc;refine ⟨?_,rfl,by simp,by simp only [not_or,List.length_cons] at hc ⊢;omega⟩;show stW (⟨t.name,t.attrs,[],[]⟩ :: endTextL p :: r) = _
   rw [stW_cons,stW_head (p:=p) r 0 (by rw [endText_wt];rfl)];simp [PartL.wt,kidsW,tailW,Tr.of,Tr.count];omega
def OkS (s:BsL):Prop:=s.1 ≠ [] /\ stW s.1 <= s.2 /\ s.2 <= 5000 /\ s.1.length <= 31
theorem tok_ok {s:BsL} (h:OkS s) (t:TokL):OkS (tokB s t) /\ (tokB s t).2 <= s.2 + 1:=by
 obtain ⟨st,n⟩:=s;obtain ⟨h1,h2,h3,h4⟩:=h;simp only at h1 h2 h3 h4;unfold tokB;split
 ·match st,h1 with
  | p :: r,h1 =>
   rw [charsP_cons];split
   ·rename_i ht;split
    ·exact ⟨⟨h1,h2,h3,h4⟩,Nat.le_succ _⟩
    ·rename_i hn;refine ⟨⟨by simp,?_,by simp only;omega,h4⟩,Nat.le_refl _⟩;have:stW ({ p with tail:=t.text } :: r) = stW (p :: r) + tailW t.text:=stW_head r _ (by simp [PartL.wt,ht,tailW]);rw [this];have:tailW t.text <= 1:=by unfold tailW;split <;> omega
     omega
   ·rename_i ht;refine ⟨⟨by simp,?_,h3,h4⟩,Nat.le_succ _⟩;have:stW ({ p with tail:=p.tail ++ t.text } :: r) = stW (p :: r) + 0:=stW_head r _ (by simp [PartL.wt,ht,tailW]);rw [this];exact h2
 ·split
  ·unfold startP;simp only;have g1:=closeAll_wt (closesB t.name) st.length st;have g2:=closeAll_length (closesB t.name) st.length st;split
   ·exact ⟨⟨g2.2 h1,by rw [g1];exact h2,h3,Nat.le_trans g2.1 h4⟩,Nat.le_succ _⟩
   ·rename_i hn;obtain ⟨p1,p2,p3,p4⟩:=put_wt t (closeAll (closesB t.name) st.length st) n (g2.2 h1);refine ⟨⟨p3,?_,by rw [p2];omega,by omega⟩,by rw [p2];exact Nat.le_refl _⟩;rw [p1,p2,g1];omega
  ·split
   ·unfold endP;simp only;split
    ·exact ⟨⟨h1,h2,h3,h4⟩,Nat.le_succ _⟩
    ·rename_i k hk;obtain ⟨k1,k2⟩:=findP_lt hk;have:=closeN_length k st k2;exact ⟨⟨fun e=>by have e:closeN k st = []:=e;rw [e] at this;simp only [List.length_nil] at this;omega,by simp only [closeN_wt];exact h2,h3,by simp only;omega⟩,Nat.le_succ _⟩
   ·exact ⟨⟨h1,h2,h3,h4⟩,Nat.le_succ _⟩
theorem ok_root:OkS ([rootL],0):=⟨by simp,Nat.le_refl _,by omega,by simp⟩
theorem fold_ok (L:List TokL) {s:BsL} (h:OkS s):OkS (L.foldl tokB s) /\ (L.foldl tokB s).2 <= s.2 + L.length:=by
 induction L generalizing s with
 | nil=>exact ⟨h,Nat.le_refl _⟩
 | cons t r ih =>
  obtain ⟨a,b⟩:=tok_ok h t;obtain ⟨c,d⟩:=ih a;exact ⟨c,by simp only [List.foldl_cons,List.length_cons];omega⟩
section
variable {P:Program} (w:World)
theorem run_append_own2 (base:Nat) (t ty e:TypeId) (i:TypeInfo) (z:Value) (size bytes:Nat) (ht:P.underlying t = some (.slice e)) (hi:P.info? e = some i) (hz:i.zero = some z)
  (hsize:i.size = size) (hby:i.bytes = bytes) (hzs:z.cells.size = size) (hsz:0 < size)
  (v:Value) (n:Nat) (xs:List Value) (hown:w.ownsRow base e size v n xs)
  (a:Addr) (m c:Nat) (news:List Value) (hl:news.length = m * size) (hnews:∀ j u,news[j]? = some u -> w.cell? (a.add j) = some u) (h1:∀ u ∈ news,u.oneCell' = true)
  (h63:n + m <= maxLen) (hbytes:(n + m) * bytes <= 140737488355328) (hbase:base <= w.heap.size) :
  ∃ v' w',(Builtin.append_ #[t,t] ty #[v,.slice (some a) m c]).run P w = .ok v' w' /\ w'.ownsRow base e size v' (n + m) (xs ++ news) /\ w.grownBy w' v.ownBlock /\
   (v'.ownBlock = v.ownBlock \/ v'.ownBlock = some w.heap.size):=by
 obtain ⟨v',w',hr,h2,h3,_⟩:=run_append_own (P:=P) w base t ty e i z size bytes ht hi hz hsize hby hzs hsz v n xs hown a m c news hl hnews h1 h63 hbytes hbase;refine ⟨v',w',hr,h2,h3,?_⟩;have hsmall:n + m <= 9223372036854775807:=by simp only [maxLen] at h63;omega
 subst hsize hby;rcases hown.2 with ⟨rfl,rfl⟩ | ⟨g,cap,cur,rfl,hbg,hg,hnc,hcm,hcs,htake⟩
 ·rcases Nat.eq_zero_or_pos m with hm | hm
  ·left;have hx:w'.ownsRow base e i.size v' 0 (xs ++ news):=by simpa [hm] using h2
   rcases hx.2 with ⟨rfl,_⟩ | ⟨g,cap,cur,rfl,_⟩
   ·rfl
   ·exfalso;subst hm;have hn:news = []:=List.eq_nil_of_length_eq_zero (by simpa using hl);subst hn;simp [Builtin.append_,run_underlying ht,sizeOf,typeInfo,hi,Builtin.lenOf,Builtin.firstCells,loadCells,loadCellsFrom] at hr
  ·have hr2:=run_append_nil (P:=P) w t ty e i z ht hi hz a m c news hl hnews hm (by omega) (by simp only [Nat.zero_add] at hbytes;omega);rw [hr] at hr2;injection hr2 with e1 e2;subst e1;exact .inr rfl
 ·by_cases hroom:n + m <= cap
  ·obtain ⟨w2,hr2,_⟩:=run_append_fits (P:=P) w base t ty e i i.size ht hi rfl g n cap xs hown a m c news hl hnews h1 hroom;rw [hr] at hr2;injection hr2 with e1 e2;subst e1;exact .inl rfl
  ·have holds:∀ j u,xs[j]? = some u -> w.cell? ((⟨g,0,none⟩:Addr).add j) = some u:=hown.cells (g:=g) rfl;have hr2:=run_append_grow (P:=P) w t ty e i z ht hi hz ⟨g,0,none⟩ n cap xs hown.1 holds a m c news hl hnews (by omega) (by omega) (growslice_fits (by omega) hbytes);rw [hr] at hr2;injection hr2 with e1 e2;subst e1;exact .inr rfl
theorem wp_append_own2 {o:Oper} {a:Act} {K:Act -> World -> Prop} {Q:Exit -> Act -> World -> Prop} (s x:Operand) (t:TypeId)
  (ho:o.op = .call { callee:=.builtin .append,args:=#[s,x],argTypes:=#[t,t] })
  (base:Nat) (e:TypeId) (i:TypeInfo) (z:Value) (size bytes:Nat) (ht:P.underlying t = some (.slice e)) (hi:P.info? e = some i) (hz:i.zero = some z)
  (hsize:i.size = size) (hby:i.bytes = bytes) (hzs:z.cells.size = size) (hsz:0 < size)
  (v:Value) (n:Nat) (xs:List Value) (hs:a.eval s = v) (hown:w.ownsRow base e size v n xs)
  (ad:Addr) (m c:Nat) (news:List Value) (hx:a.eval x = .slice (some ad) m c) (hl:news.length = m * size) (hnews:∀ j u,news[j]? = some u -> w.cell? (ad.add j) = some u) (h1:∀ u ∈ news,u.oneCell' = true)
  (h63:n + m <= maxLen) (hbytes:(n + m) * bytes <= 140737488355328) (hbase:base <= w.heap.size)
  (h:∀ v' w',w'.ownsRow base e size v' (n + m) (xs ++ news) -> w.grownBy w' v.ownBlock -> (v'.ownBlock = v.ownBlock \/ v'.ownBlock = some w.heap.size) -> K (a.put o.dst v') w'):o.wp P a w K Q:=by
 obtain ⟨v',w',hr,h2,h3,h4⟩:=run_append_own2 (P:=P) w base t o.type e i z size bytes ht hi hz hsize hby hzs hsz v n xs hown ad m c news hl hnews h1 h63 hbytes hbase;unfold Oper.wp execOp;simp only [ho,resolve,invoke,builtin,Sem.run_bind,Sem.run_pure,Result.andThen_ok,List.map_toArray,List.map_cons,List.map_nil,hs,hx,hr];exact h v' w' h2 h3 h4
theorem wpList_append_own2 {ops:Array Oper} {rest:List Oper} {o:Oper} {a:Act} {Q:Exit -> Act -> World -> Prop} (hgd:o.guard = none) (s x:Operand) (t:TypeId)
  (ho:o.op = .call { callee:=.builtin .append,args:=#[s,x],argTypes:=#[t,t] })
  (base:Nat) (e:TypeId) (i:TypeInfo) (z:Value) (size bytes:Nat) (ht:P.underlying t = some (.slice e)) (hi:P.info? e = some i) (hz:i.zero = some z)
  (hsize:i.size = size) (hby:i.bytes = bytes) (hzs:z.cells.size = size) (hsz:0 < size)
  (v:Value) (n:Nat) (xs:List Value) (hs:a.eval s = v) (hown:w.ownsRow base e size v n xs)
  (ad:Addr) (m c:Nat) (news:List Value) (hx:a.eval x = .slice (some ad) m c) (hl:news.length = m * size) (hnews:∀ j u,news[j]? = some u -> w.cell? (ad.add j) = some u) (h1:∀ u ∈ news,u.oneCell' = true)
  (h63:n + m <= maxLen) (hbytes:(n + m) * bytes <= 140737488355328) (hbase:base <= w.heap.size)
  (h:∀ v' w',w'.ownsRow base e size v' (n + m) (xs ++ news) -> w.grownBy w' v.ownBlock -> (v'.ownBlock = v.ownBlock \/ v'.ownBlock = some w.heap.size) -> wpList P ops Q rest (a.put o.dst v') w'):wpList P ops Q (o :: rest) a w :=
 wpList_plain hgd fun _ hK=>wp_append_own2 w s x t ho base e i z size bytes ht hi hz hsize hby hzs hsz v n xs hs hown ad m c news hx hl hnews h1 h63 hbytes hbase fun v' w' h2 h3 h4=>hK _ _ (h v' w' h2 h3 h4)
end
theorem rdSize:(Tryz.prog.info? 99).map (·.size) = some 2:=by kernel_rfl
theorem rdLies:liesAt Tryz.prog Tryz.prog.depth 101 (3 / Tryz.prog.cellsOf 101) 1 99 1 = true:=by kernel_rfl
def RdC (w:World) (b:Nat) (o a v:Value):Prop:=w.heap[b]? = some (.cells #[o,a,v] 101 (0,0))
theorem RdC.cell0 {w:World} {b:Nat} {o a v:Value} (h:RdC w b o a v):w.cell? ⟨b,0,none⟩ = some o:=by rw [Lib.cell_of_heap h];rfl
theorem RdC.cell1 {w:World} {b:Nat} {o a v:Value} (h:RdC w b o a v):w.cell? ⟨b,1,none⟩ = some a:=by rw [Lib.cell_of_heap h];rfl
theorem RdC.cell2 {w:World} {b:Nat} {o a v:Value} (h:RdC w b o a v):w.cell? ⟨b,2,none⟩ = some v:=by rw [Lib.cell_of_heap h];rfl
theorem RdC.free {w:World} {b:Nat} {o a v:Value} (h:RdC w b o a v) (i:Nat):w.frozen? ⟨b,i,none⟩ = false:=Lib.frozen_of_heap h i
theorem RdC.lt {w:World} {b:Nat} {o a v:Value} (h:RdC w b o a v):b < w.heap.size:=lt_of_block h
theorem RdC.shape {w:World} {b:Nat} {o a v:Value} (h:RdC w b o a v):w.shape? b = some (101,3):=by
 have h':w.heap[b]? = some (.cells #[o,a,v] 101 (0,0)):=h;simp [World.shape?,h']
theorem heap_put {w:World} {g j:Nat} {cur:Array Value} {e:TypeId} {fr:Nat × Nat} (u:Value) (h:w.heap[g]? = some (.cells cur e fr)):(w.setCell ⟨g,j,none⟩ u).heap[g]? = some (.cells (cur.setIfInBounds j u) e fr):=by
 have hlt:=(Array.getElem?_eq_some_iff.1 h).1;have he:=(Array.getElem?_eq_some_iff.1 h).2;simp only [World.setCell,Array.getElem?_modify,if_true,h,Option.map_some];rfl
theorem RdC.put0 {w:World} {b:Nat} {o a v:Value} (h:RdC w b o a v) (u:Value):RdC (w.setCell ⟨b,0,none⟩ u) b u a v:=heap_put (j:=0) u h
theorem RdC.put1 {w:World} {b:Nat} {o a v:Value} (h:RdC w b o a v) (u:Value):RdC (w.setCell ⟨b,1,none⟩ u) b o u v:=heap_put (j:=1) u h
theorem RdC.put2 {w:World} {b:Nat} {o a v:Value} (h:RdC w b o a v) (u:Value):RdC (w.setCell ⟨b,2,none⟩ u) b o a u:=heap_put (j:=2) u h
def RowsK (w w':World):Prop:=∀ (B:Nat) (e:TypeId) (sz n:Nat) (u:Value) (xs:List Value),e ≠ 5 -> e ≠ 101 -> w.ownsRow B e sz u n xs -> w'.ownsRow B e sz u n xs
theorem RowsK.refl (w:World):RowsK w w:=fun _ _ _ _ _ _ _ _ h=>h
theorem RowsK.trans {a b c:World} (h:RowsK a b) (k:RowsK b c):RowsK a c:=fun B e sz n u xs h1 h2 hx=>k B e sz n u xs h1 h2 (h B e sz n u xs h1 h2 hx)
theorem RowsK.below {w w':World} (hb:Below w.heap.size w w'):RowsK w w':=fun B e sz n u xs _ _ hx=>hx.kept (row:=none) ⟨hb.os,hb.tape,hb.output,hb.size,fun k hk _=>hb.block k hk⟩ (by cases hv:u.ownBlock <;> simp)
theorem RowsK.grown {w w':World} {B n:Nat} {v:Value} {xs:List Value} (h:w.ownsRow B 5 1 v n xs) (hg:w.grownBy w' v.ownBlock):RowsK w w':=fun B' e sz m u ys h1 _ hx=>hx.kept hg (ownsRow_diff h1 hx h)
theorem RowsK.put {w:World} {b:Nat} {o a v:Value} (h:RdC w b o a v) (i:Nat) (u:Value):RowsK w (w.setCell ⟨b,i,none⟩ u):=fun B e sz n x xs _ h2 hx =>
 hx.kept (row:=some b) ⟨rfl,rfl,rfl,by simp [World.setCell],fun k _ hk=>Below.heap_setCell _ _ _ k (fun e=>hk (by rw [e]))⟩ (.inr (ownsRow_other hx (fun cur hc=>by
  have h':w.heap[b]? = some (.cells #[o,a,v] 101 (0,0)):=h;rw [h'] at hc;injection hc with hc;injection hc with _ hc;exact h2 hc.symm)))
theorem TRow.rows {B:Nat} {v:Value} {ls:List TokV} {w w':World} (h:TRow B v ls w) (hk:RowsK w w'):TRow B v ls w' :=
 ⟨hk _ _ _ _ _ _ (by decide) (by decide) h.row,fun p hp=>hk _ _ _ _ _ _ (by decide) (by decide) (h.each p hp)⟩
theorem copyCheckR_used (b:Nat) (w:World) (h0:w.cell? ⟨b,1,none⟩ = some (.pointer (some ⟨b,1,none⟩))) :
  Calls Tryz.prog 67 #[.pointer (some ⟨b,1,none⟩)] w fun e w'=>e = .returned (.tuple #[]) /\ w = w':=by
 obtain ⟨j,hj,_⟩:=Option.map_eq_some_iff.1 rdSize;have hne:=fun w:World=>Lib.run_neq_ptr_same (P:=Tryz.prog) w ⟨b,1,none⟩ Tryz.underlying97 hj
 go_enter Tryz.func67,Tryz.ntmps67;go_wp2;go_end0;exact ⟨rfl,rfl⟩
theorem copyCheckR_fresh (b:Nat) (w:World) (h0:w.cell? ⟨b,1,none⟩ = some (.pointer none)) (hsh:w.shape? b = some (101,3)) (hfz:w.frozen? ⟨b,1,none⟩ = false) :
  Calls Tryz.prog 67 #[.pointer (some ⟨b,1,none⟩)] w fun e w'=>e = .returned (.tuple #[]) /\ w.setCell ⟨b,1,none⟩ (.pointer (some ⟨b,1,none⟩)) = w':=by
 obtain ⟨j,hj,hjs⟩:=Option.map_eq_some_iff.1 rdSize;have c1:=Lib.run_to_unsafe (P:=Tryz.prog) w ⟨b,1,none⟩ Tryz.underlying97 Tryz.underlying134 hj (by rw [hjs];decide) hsh (show 1 < 3 by decide);have c2:=Lib.run_from_unsafe (P:=Tryz.prog) w ⟨b,1,none⟩ Tryz.underlying134 Tryz.underlying97 hj hsh rdLies;have ce:=fun w:World=>run_callFunc_extern (P:=Tryz.prog) (w:=w) (args:=#[Value.pointer (some ⟨b,1,none⟩)]) Tryz.func96 (by kernel_rfl) (by kernel_rfl) (by kernel_rfl) (e:=Extern.AbiNoEscape.same) (by kernel_rfl)
 have cn:=fun w:World=>Lib.run_noEscape (P:=Tryz.prog) (w:=w) (Value.pointer (some ⟨b,1,none⟩))
 go_enter Tryz.func67,Tryz.ntmps67;go_wp2;go_end0;exact ⟨rfl,rfl⟩
def AdrOK (b:Nat) (a:Value):Prop:=a = .pointer none \/ a = .pointer (some ⟨b,1,none⟩)
theorem copyCheckR_any (B b:Nat) (o a v:Value) (w:World) (h:RdC w b o a v) (ha:AdrOK b a) (hB:B <= b) :
  Calls Tryz.prog 67 #[.pointer (some ⟨b,1,none⟩)] w fun e w'=>e = .returned (.tuple #[]) /\ RdC w' b o (.pointer (some ⟨b,1,none⟩)) v /\ Below B w w' /\ RowsK w w' /\ (∀ k,k ≠ b -> w'.heap[k]? = w.heap[k]?) /\ w.heap.size = w'.heap.size:=by
 rcases ha with rfl | rfl
 ·refine (copyCheckR_fresh b w h.cell1 h.shape (h.free 1)).mono ?_;rintro e w' ⟨rfl,rfl⟩;exact ⟨rfl,h.put1 _,(Below.refl B w).setCell (p:=⟨b,1,none⟩) hB _,RowsK.put h 1 _,fun k hk=>Below.heap_setCell _ _ _ k (fun e=>hk (by rw [e])),by simp [World.setCell]⟩
 ·refine (copyCheckR_used b w h.cell1).mono ?_;rintro e w' ⟨rfl,rfl⟩;exact ⟨rfl,h,Below.refl _ _,RowsK.refl _,fun k _=>rfl,rfl⟩
structure Rdr (B b:Nat) (o:Value) (vs:List TokV) (x:List UInt8) (W0 w:World):Prop where
  at':∃ a v,RdC w b o a v /\ AdrOK b a /\ w.ownsRow B 5 1 v x.length (cellsOf x) /\ v.ownBlock ≠ some b
  toks:TRow B o vs w
  base:B <= b
  below:Below B W0 w
  size:B <= w.heap.size
theorem Rdr.kept {B b:Nat} {o:Value} {vs:List TokV} {x:List UInt8} {W0 w w':World} (h:Rdr B b o vs x W0 w) (hb:Below w.heap.size w w'):Rdr B b o vs x W0 w':=by
 obtain ⟨⟨a,v,h1,h2,h3,h4⟩,ht,hB,hW,hz⟩:=h;exact ⟨⟨a,v,(hb.block b h1.lt).trans h1,h2,h3.kept (row:=none) ⟨hb.os,hb.tape,hb.output,hb.size,fun k hk _=>hb.block k hk⟩ (by cases hv:v.ownBlock <;> simp),h4⟩,ht.kept hb,hB,hW.trans (hb.mono hz),Nat.le_trans hz hb.size⟩
theorem writeR_any (B b : Nat) (o : Value) (vs : List TokV) (x : List UInt8) (s : ByteArray) (W0 w : World) (h : Rdr B b o vs x W0 w) (hlen : x.length + s.size ≤ 140737488355328) :
    Calls Tryz.prog 49 #[.pointer (some ⟨b, 1, none⟩), .string s] w fun e w' => e = .returned (.tuple #[.int .i64 s.size, .nilIface]) ∧ Rdr B b o vs (x ++ s.data.toList) W0 w' := by
  obtain ⟨⟨a, v, h1, h2, h3, h4⟩, ht, hB, hW, hz⟩ := h
  obtain ⟨i0, hi, hz0, hz1, hz2⟩ := info_parts info_u8
  have HC := hide (copyCheckR_any B b o a v w h1 h2 hB)
  have H3 := hide h3
  have H4 := hide h4
  have HT := hide ht
  have HW := hide hW
  have hl1 : (cellsOf x).length = x.length := cellsOf_length x
  have HI := hide hi
  have HZ0 := hide hz0
  have HZ1 := hide hz1
  have HZ2 := hide hz2
  have HL1 := hide hl1
  clear h1 h2 h3 h4 ht hW hi hz0 hz1 hz2 hl1
  go_enter Tryz.func49, Tryz.ntmps49
  go_wp2_with fail
  refine HC.out.mono ?_
  rintro e w1 ⟨rfl, k1, k2, k3, k4, k5⟩
  have c2 := k1.cell2
  have hlt := k1.lt
  have hsz1 := k2.size
  have HOWN : Hid (w1.ownsRow B 5 1 v x.length (cellsOf x)) := hide (by
    have hx := H3.out
    exact hx.kept (row := some b) ⟨k2.os, k2.tape, k2.output, Nat.le_of_eq k5, fun k _ hk => k4 k (fun e => hk (by rw [e]))⟩ (.inr H4.out))
  have HK1 := hide k1
  have HK2 := hide k2
  have HK3 := hide k3
  have HSZ := hide (show B ≤ w1.heap.size by omega)
  clear k1 k2 k3 k4 k5
  go_wp2_with (refine Lib.wpList_append_own_string _ rfl _ _ 58 9 rfl B 5 i0 Tryz.underlying58 Tryz.underlying9 HI.out HZ0.out HZ1.out HZ2.out v x.length (cellsOf x) rfl HOWN.out s rfl (by unfold maxLen; omega) (by omega) HSZ.out ?_
               intro v' w2 hown' hgrow _
               obtain ⟨ao, n', cap, rfl⟩ : ∃ ao n' cap, v' = .slice ao n' cap := by
                 rcases hown'.2 with ⟨hv, _⟩ | ⟨g, cap, cur, hv, _⟩
                 · exact ⟨_, _, _, hv⟩
                 · exact ⟨_, _, _, hv⟩
               have hb2 : RdC w2 b o (.pointer (some ⟨b, 1, none⟩)) v := (hgrow.block b hlt (fun e => H4.out e.symm)).trans HK1.out
               have d2 := hb2.cell2
               have f2 := hb2.free 2
               have HO2 := hide hown'
               have HG2 := hide hgrow
               have HB2 := hide hb2
               clear hown' hgrow hb2)
  go_ret2
  have hb3 : Below B w w2 := HK2.out.grown HG2.out HSZ.out (fun k hk => (HOWN.out.lt k hk).1)
  have hk2 : RowsK w1 w2 := RowsK.grown HOWN.out HG2.out
  have hkp := RowsK.put HB2.out 2 (.slice ao n' cap)
  refine ⟨rfl, ⟨⟨_, _, HB2.out.put2 _, .inr rfl, ?_, ?_⟩, HT.out.rows (HK3.out.trans (hk2.trans hkp)), hB, (HW.out.trans hb3).setCell (p := ⟨b, 2, none⟩) hB _, ?_⟩⟩
  · have e1 : cellsOf (x ++ s.data.toList) = cellsOf x ++ Lib.strCells s := by rw [cellsOf_str, cellsOf, List.map_append]; rfl
    rw [e1, List.length_append, toList_length]
    have ho := HO2.out
    refine ho.kept (row := some b) ⟨rfl, rfl, rfl, by simp [World.setCell], fun k _ hk => Below.heap_setCell _ _ _ k (fun e => hk (by rw [e]))⟩ (.inr ?_)
    exact ownsRow_other ho (fun cur hc => by
      have h' : w2.heap[b]? = some (.cells #[o, .pointer (some ⟨b, 1, none⟩), v] 101 (0, 0)) := HB2.out
      rw [h'] at hc
      injection hc with hc
      injection hc with _ hc
      exact absurd hc (by decide))
  · exact ownsRow_other HO2.out (fun cur hc => by
      have h' : w2.heap[b]? = some (.cells #[o, .pointer (some ⟨b, 1, none⟩), v] 101 (0, 0)) := HB2.out
      rw [h'] at hc
      injection hc with hc
      injection hc with _ hc
      exact absurd hc (by decide))
  · have := hb3.size
    simp [World.setCell]
    omega
theorem lenR_any (B b:Nat) (o:Value) (vs:List TokV) (x:List UInt8) (W0 w:World) (h:Rdr B b o vs x W0 w) :
  Calls Tryz.prog 80 #[.pointer (some ⟨b,1,none⟩)] w fun e w'=>e = .returned (.int .i64 x.length) /\ w = w':=by
 obtain ⟨⟨a,v,h1,h2,h3,h4⟩,_⟩:=h
 obtain ⟨A,c,rfl⟩:∃ A c,v = .slice A x.length c:=by
  rcases h3.2 with ⟨rfl,h0⟩ | ⟨g,cap,cur,rfl,_⟩
  ·rw [h0];exact ⟨_,_,rfl⟩
  ·exact ⟨_,_,rfl⟩
 have c2:=h1.cell2;clear h1 h2 h3 h4;go_enter Tryz.func80,Tryz.ntmps80;go_wp2_with fail;go_ret;exact ⟨rfl,rfl⟩
abbrev KidV:=(NdH × Tr) × (Value × Value)
def nodeVals (ks:List KidV):List Value:=ks.flatMap fun p=>[.string (str p.1.1.name),p.2.1,.string (str p.1.1.text),p.2.2]
theorem nodeVals_length (ls:List KidV):(nodeVals ls).length = ls.length * 4:=by
 induction ls with
 | nil=>rfl
 | cons f r ih=>unfold nodeVals at *;rw [List.flatMap_cons,List.length_append,ih];simp;omega
theorem nodeVals_append (a b:List KidV):nodeVals (a ++ b) = nodeVals a ++ nodeVals b:=by unfold nodeVals;rw [List.flatMap_append]
structure PartV where
  name:List UInt8
  attrs:List AtL
  av:Value
  kids:List KidV
  kv:Value
  tail:List UInt8
  tv:Value
def PartV.toL (p:PartV):PartL:=⟨p.name,p.attrs,p.kids.map Prod.fst,p.tail⟩
def partVals (ps:List PartV):List Value:=ps.flatMap fun p=>[.string (str p.name),p.av,.string ⟨#[]⟩,p.kv,p.tv]
theorem partVals_length (ls:List PartV):(partVals ls).length = ls.length * 5:=by
 induction ls with
 | nil=>rfl
 | cons f r ih=>unfold partVals at *;rw [List.flatMap_cons,List.length_append,ih];simp;omega
theorem partVals_append (a b:List PartV):partVals (a ++ b) = partVals a ++ partVals b:=by unfold partVals;rw [List.flatMap_append]
theorem partVals_at (ps:List PartV) (p:PartV) (j:Nat) (hj:j < 5) (rest:List PartV):(partVals (ps ++ p :: rest))[ps.length * 5 + j]? = [Value.string (str p.name),p.av,.string ⟨#[]⟩,p.kv,p.tv][j]?:=by
 rw [partVals_append,List.getElem?_append_right (by rw [partVals_length];omega),partVals_length,show ps.length * 5 + j - ps.length * 5 = j by omega];unfold partVals;rw [List.flatMap_cons,List.getElem?_append_left (by simpa using hj)]
theorem partVals_set (ps:List PartV) (p:PartV) (j:Nat) (hj:j < 5) (u:Value):(partVals (ps ++ [p])).set (ps.length * 5 + j) u = partVals ps ++ [Value.string (str p.name),p.av,.string ⟨#[]⟩,p.kv,p.tv].set j u:=by
 rw [partVals_append,List.set_append_right _ _ (by rw [partVals_length];omega),partVals_length,show ps.length * 5 + j - ps.length * 5 = j by omega];rfl
structure KRow (C:Nat -> Prop) (B:Nat) (v:Value) (ks:List KidV) (w:World):Prop where
  row:w.ownsRow B 36 4 v ks.length (nodeVals ks)
  each:∀ q ∈ ks,AttrsC C w q.2.1 q.1.1.attrs /\ NodesC C w q.2.2 q.1.2
  out:∀ g,v.ownBlock = some g -> ¬ C g
def Since4 (W0 w:World):Prop:=∀ (g:Nat) (cur:Array Value) (T:TypeId) (fz:Nat × Nat),W0.heap[g]? = some (Obj.cells cur T fz) -> (T ≠ 67 /\ T ≠ 77 /\ T ≠ 36 /\ T ≠ 5) -> w.heap[g]? = W0.heap[g]?
theorem Since4.refl (w:World):Since4 w w:=fun _ _ _ _ _ _=>rfl
theorem Since4.trans {a b c:World} (h:Since4 a b) (k:Since4 b c):Since4 a c:=fun g cur T fz hg hT=>(k g cur T fz ((h g cur T fz hg hT).trans hg) hT).trans (h g cur T fz hg hT)
theorem Since4.grown {W0 w w':World} {row:Option Nat} (h:Since4 W0 w) (hg:w.grownBy w' row) (hr:∀ k,row = some k -> ∃ (cur:Array Value) (T:TypeId) (fz:Nat × Nat),w.heap[k]? = some (Obj.cells cur T fz) /\ (T = 67 \/ T = 77 \/ T = 36 \/ T = 5)):Since4 W0 w':=fun g cur T fz h0 hT=>by
 have h1:=h g cur T fz h0 hT;rw [hg.block g (lt_of_block (h1.trans h0)) (fun e=>?_)]
 ·exact h1
 ·obtain ⟨cur2,T2,fz2,h2,h3⟩:=hr g e.symm;rw [h1.trans h0] at h2;injection h2 with h2;injection h2 with _ h2;subst h2;rcases h3 with h3 | h3 | h3 | h3
  ·exact hT.1 h3
  ·exact hT.2.1 h3
  ·exact hT.2.2.1 h3
  ·exact hT.2.2.2 h3
theorem own_ty {w:World} {B:Nat} {e:TypeId} {sz n:Nat} {v:Value} {xs:List Value} (h:w.ownsRow B e sz v n xs) {k:Nat} (hk:v.ownBlock = some k):∃ (cur:Array Value) (T:TypeId) (fz:Nat × Nat),w.heap[k]? = some (Obj.cells cur T fz) /\ T = e:=by
 rcases h.2 with ⟨e0,_⟩ | ⟨g,cap,cur,e0,_,hh,_⟩
 ·rw [e0] at hk;cases hk
 ·rw [e0] at hk;obtain rfl:g = k:=by simpa [Value.ownBlock] using hk
  exact ⟨cur,_,_,hh,rfl⟩
theorem Since4.own {W0 w w':World} {B:Nat} {e:TypeId} {sz n:Nat} {v:Value} {xs:List Value} (h:Since4 W0 w) (ho:w.ownsRow B e sz v n xs) (hg:w.grownBy w' v.ownBlock) (he:e = 67 \/ e = 77 \/ e = 36 \/ e = 5):Since4 W0 w' :=
 h.grown hg (fun k hk=>by
  obtain ⟨cur,T,fz,h1,rfl⟩:=own_ty ho hk;exact ⟨cur,T,fz,h1,he⟩)
theorem Since4.put {W0 w:World} {b i:Nat} {u:Value} {cs:Array Value} {T:TypeId} {fz:Nat × Nat} (h:Since4 W0 w) (hb:w.heap[b]? = some (Obj.cells cs T fz)) (hT:T = 67 \/ T = 77 \/ T = 36 \/ T = 5):Since4 W0 (w.setCell ⟨b,i,none⟩ u) :=
 h.grown (row:=some b) ⟨rfl,rfl,rfl,by simp [World.setCell],fun k _ hk=>Below.heap_setCell _ _ _ k (fun e=>hk (by rw [e]))⟩ (fun k e=>by injection e with e;subst e;exact ⟨cs,T,fz,hb,hT⟩)
theorem Since4.below {W0 w w':World} (h:Since4 W0 w) (hb:Below w.heap.size w w'):Since4 W0 w':=h.grown (row:=none) ⟨hb.os,hb.tape,hb.output,hb.size,fun k hk _=>hb.block k hk⟩ (fun k e=>by cases e)
structure BS (C:Nat -> Prop) (B b:Nat) (r:Value) (st:List PartV) (n:Nat) (W0 w:World):Prop where
  blk:w.heap[b]? = some (.cells #[r,.int .i64 n] 67 (0,0))
  row:w.ownsRow B 77 5 r st.length (partVals st.reverse)
  attrs:∀ p ∈ st,AttrsC C w p.av p.attrs
  kids:∀ p ∈ st,KRow C B p.kv p.kids w
  apart:st.Pairwise (fun p q=>p.kv.ownBlock = none \/ p.kv.ownBlock ≠ q.kv.ownBlock)
  tails:∀ p ∈ st,w.ownsRow B 5 1 p.tv p.tail.length (cellsOf p.tail) /\ (p.tail = [] -> p.tv = .slice none 0 0)
  quiet:∀ p ∈ st.tail,p.tail = []
  typ:∀ g,C g -> g < w.heap.size /\ ∀ cur T fz,w.heap[g]? = some (.cells cur T fz) -> T = 36 \/ T = 47
  base:B <= b
  below:Below B W0 w
  size:B <= w.heap.size
  since:Since4 W0 w
theorem grown_none {w w':World} (hb:Below w.heap.size w w'):w.grownBy w' none:=⟨hb.os,hb.tape,hb.output,hb.size,fun k hk _=>hb.block k hk⟩
theorem own_type {w w':World} {B k:Nat} {e:TypeId} {sz n:Nat} {v:Value} {xs:List Value} (h:w.ownsRow B e sz v n xs) (hg:w.grownBy w' (some k)) (ht:∀ cur,w.heap[k]? ≠ some (.cells cur e (0,0))):w'.ownsRow B e sz v n xs :=
 h.kept hg (.inr (ownsRow_other h ht))
theorem KRow.turned {C:Nat -> Prop} {B:Nat} {v:Value} {ks:List KidV} {w w':World} {row:Option Nat} (h:KRow C B v ks w) (hg:w.grownBy w' row) (hC:∀ k,C k -> k < w.heap.size) (hr:∀ k,row = some k -> ¬ C k) (hne:v.ownBlock = none \/ v.ownBlock ≠ row):KRow C B v ks w':=by
 have hk:∀ b,C b -> w'.heap[b]? = w.heap[b]?:=fun b hb=>hg.block b (hC b hb) (fun e=>hr b e.symm hb)
 exact ⟨h.row.kept hg hne,fun q hq=>⟨(h.each q hq).1.mono hk (fun _ x=>x),(h.each q hq).2.mono hk (fun _ x=>x)⟩,h.out⟩
theorem BS.turned {C:Nat -> Prop} {B b:Nat} {r:Value} {st:List PartV} {n:Nat} {W0 w w':World} {row:Option Nat} (h:BS C B b r st n W0 w) (hs4:Since4 W0 w') (hg:w.grownBy w' row)
  (hr:∀ k,row = some k -> B <= k /\ k ≠ b /\ ¬ C k /\ ∀ cur,w.heap[k]? ≠ some (.cells cur 77 (0,0)) /\ w.heap[k]? ≠ some (.cells cur 36 (0,0)) /\ w.heap[k]? ≠ some (.cells cur 5 (0,0))):BS C B b r st n W0 w':=by
 have hC:∀ k,C k -> k < w.heap.size:=fun k hk=>(h.typ k hk).1
 have hk:∀ g,C g -> w'.heap[g]? = w.heap[g]?:=fun g hgC=>hg.block g (hC g hgC) (fun e=>(hr g e.symm).2.2.1 hgC)
 have hown:∀ {e:TypeId} {sz m:Nat} {v:Value} {xs:List Value},w.ownsRow B e sz v m xs -> (∀ k,row = some k -> ∀ cur,w.heap[k]? ≠ some (.cells cur e (0,0))) -> v.ownBlock = none \/ v.ownBlock ≠ row:=fun {e sz m v xs} ho ht=>by
  cases row with
  | none=>cases hv:v.ownBlock <;> simp
  | some k=>exact .inr (ownsRow_other ho (ht k rfl))
 refine ⟨?_,h.row.kept hg (hown h.row fun k e cur=>((hr k e).2.2.2 cur).1),fun p hp=>(h.attrs p hp).mono hk (fun _ x=>x),fun p hp=>(h.kids p hp).turned hg hC (fun k e=>(hr k e).2.2.1) (hown (h.kids p hp).row fun k e cur=>((hr k e).2.2.2 cur).2.1),h.apart,
  fun p hp=>⟨(h.tails p hp).1.kept hg (hown (h.tails p hp).1 fun k e cur=>((hr k e).2.2.2 cur).2.2),(h.tails p hp).2⟩,h.quiet,fun g hgC=>⟨Nat.lt_of_lt_of_le (hC g hgC) hg.size,by rw [hk g hgC];exact (h.typ g hgC).2⟩,h.base,h.below.grown hg h.size (fun k e=>(hr k e).1),Nat.le_trans h.size hg.size,hs4⟩
 rw [hg.block b (lt_of_block h.blk) (fun e=>(hr b e.symm).2.1 rfl)];exact h.blk
theorem BS.kept {C:Nat -> Prop} {B b:Nat} {r:Value} {st:List PartV} {n:Nat} {W0 w w':World} (h:BS C B b r st n W0 w) (hb:Below w.heap.size w w'):BS C B b r st n W0 w':=h.turned (h.since.below hb) (grown_none hb) (fun k e=>by cases e)
theorem BS.c0 {C:Nat -> Prop} {B b:Nat} {r:Value} {st:List PartV} {n:Nat} {W0 w:World} (h:BS C B b r st n W0 w):w.cell? ⟨b,0,none⟩ = some r:=by rw [Lib.cell_of_heap h.blk];rfl
theorem BS.c1 {C:Nat -> Prop} {B b:Nat} {r:Value} {st:List PartV} {n:Nat} {W0 w:World} (h:BS C B b r st n W0 w):w.cell? ⟨b,1,none⟩ = some (.int .i64 n):=by rw [Lib.cell_of_heap h.blk];rfl
theorem BS.free {C:Nat -> Prop} {B b:Nat} {r:Value} {st:List PartV} {n:Nat} {W0 w:World} (h:BS C B b r st n W0 w) (i:Nat):w.frozen? ⟨b,i,none⟩ = false:=Lib.frozen_of_heap h.blk i
theorem BS.form {C:Nat -> Prop} {B b:Nat} {r:Value} {st:List PartV} {n:Nat} {W0 w:World} (h:BS C B b r st n W0 w) (hs:st ≠ []):∃ g cap,r = .slice (some ⟨g,0,none⟩) st.length cap /\ st.length <= cap /\ cap <= maxLen /\ B <= g /\ g < w.heap.size:=by
 rcases h.row.2 with ⟨rfl,h0⟩ | ⟨g,cap,cur,rfl,hg,hh,hc,hm,_⟩
 ·exact absurd (List.eq_nil_of_length_eq_zero h0) hs
 ·exact ⟨g,cap,rfl,hc,hm,hg,lt_of_block hh⟩
theorem BS.cells {C:Nat -> Prop} {B b g cap:Nat} {p:PartV} {rest:List PartV} {n:Nat} {W0 w:World} (h:BS C B b (.slice (some ⟨g,0,none⟩) (rest.length + 1) cap) (p :: rest) n W0 w) :
  w.cell? ⟨g,rest.length * 5,none⟩ = some (.string (str p.name)) /\ w.cell? ⟨g,rest.length * 5 + 1,none⟩ = some p.av /\ w.cell? ⟨g,rest.length * 5 + 2,none⟩ = some (.string ⟨#[]⟩) /\ w.cell? ⟨g,rest.length * 5 + 3,none⟩ = some p.kv /\ w.cell? ⟨g,rest.length * 5 + 4,none⟩ = some p.tv /\ (∀ i,w.frozen? ⟨g,i,none⟩ = false):=by
 have hr:=h.row;rw [List.length_cons] at hr
 have hc:∀ j,j < 5 -> w.cell? ⟨g,rest.length * 5 + j,none⟩ = [Value.string (str p.name),p.av,.string ⟨#[]⟩,p.kv,p.tv][j]?:=fun j hj=>by
  rw [hr.cellAt _ (by omega)];have:=partVals_at rest.reverse p j hj [];rw [List.length_reverse] at this;rw [List.reverse_cons];exact this
 exact ⟨hc 0 (by decide),hc 1 (by decide),hc 2 (by decide),hc 3 (by decide),hc 4 (by decide),fun i=>hr.frozenAt i⟩
theorem BS.rowOut {C:Nat -> Prop} {B b g m cap:Nat} {st:List PartV} {n:Nat} {W0 w:World} (h:BS C B b (.slice (some ⟨g,0,none⟩) m cap) st n W0 w):g ≠ b /\ ¬ C g /\ B <= g /\ ∀ (cur:Array Value) (e:TypeId),e ≠ 77 -> w.heap[g]? ≠ some (.cells cur e (0,0)):=by
 rcases h.row.2 with ⟨h0,_⟩ | ⟨g',cap',cur,h0,hg,hh,hc,hm,_⟩
 ·cases h0
 ·injection h0 with h0 _ _;injection h0 with h0;injection h0 with h0;subst h0;refine ⟨fun e=>?_,fun hC=>?_,hg,fun cur' e he hx=>?_⟩
  ·have:=h.blk;rw [<- e,hh] at this;injection this with this;injection this with _ this;exact absurd this (by decide)
  ·rcases (h.typ g hC).2 _ _ _ hh with e | e
   ·exact absurd e (by decide)
   ·exact absurd e (by decide)
  ·rw [hh] at hx;injection hx with hx;injection hx with _ hx;exact he hx.symm
theorem BS.put {C:Nat -> Prop} {B b g cap:Nat} {p:PartV} {rest:List PartV} {n:Nat} {W0 w:World} (h:BS C B b (.slice (some ⟨g,0,none⟩) (rest.length + 1) cap) (p :: rest) n W0 w) (p':PartV) (j:Nat) (u:Value) (hj:j < 5)
  (he:[Value.string (str p.name),p.av,.string ⟨#[]⟩,p.kv,p.tv].set j u = [Value.string (str p'.name),p'.av,.string ⟨#[]⟩,p'.kv,p'.tv]) :
  (w.setCell ⟨g,rest.length * 5 + j,none⟩ u).ownsRow B 77 5 (.slice (some ⟨g,0,none⟩) (rest.length + 1) cap) (rest.length + 1) (partVals (p' :: rest).reverse) /\ w.grownBy (w.setCell ⟨g,rest.length * 5 + j,none⟩ u) (some g):=by
 have hr:=h.row;rw [List.length_cons] at hr;obtain ⟨r1,r2⟩:=hr.stored (rest.length * 5 + j) u;refine ⟨?_,r2⟩;rw [List.reverse_cons] at r1 ⊢;have e1:=partVals_set rest.reverse p j hj u;rw [List.length_reverse] at e1;rw [e1,he] at r1;rw [partVals_append];exact r1
theorem heap_put0 {w:World} {b i:Nat} {cs:Array Value} {T:TypeId} (h:w.heap[b]? = some (.cells cs T (0,0))) (u:Value):(w.setCell ⟨b,i,none⟩ u).heap[b]? = some (.cells (cs.setIfInBounds i u) T (0,0)):=heap_put u h
theorem grown_put (w:World) (b i:Nat) (u:Value):w.grownBy (w.setCell ⟨b,i,none⟩ u) (some b) :=
 ⟨rfl,rfl,rfl,by simp [World.setCell],fun k _ hk=>Below.heap_setCell _ _ _ k (fun e=>hk (by rw [e]))⟩
theorem same_put {w:World} {b i:Nat} {u:Value} {C:Nat -> Prop} (hC:¬ C b):∀ g,C g -> (w.setCell ⟨b,i,none⟩ u).heap[g]? = w.heap[g]?:=fun g hg=>Below.heap_setCell _ _ _ g (fun e=>hC (by rw [<- show g = b from e];exact hg))
theorem BS.out {C:Nat -> Prop} {B b:Nat} {r:Value} {st:List PartV} {n:Nat} {W0 w:World} (h:BS C B b r st n W0 w):¬ C b /\ ∀ (cur:Array Value) (e:TypeId),e ≠ 67 -> w.heap[b]? ≠ some (.cells cur e (0,0)):=by
 refine ⟨fun hC=>?_,fun cur e he hx=>?_⟩
 ·rcases (h.typ b hC).2 _ _ _ h.blk with e | e
  ·exact absurd e (by decide)
  ·exact absurd e (by decide)
 ·rw [h.blk] at hx;injection hx with hx;injection hx with _ hx;exact he hx.symm
theorem BS.putB {C:Nat -> Prop} {B b:Nat} {r:Value} {st:List PartV} {n:Nat} {W0 w:World} (h:BS C B b r st n W0 w) (i:Nat) (u r':Value) (n':Nat)
  (he:(#[r,.int .i64 n]:Array Value).setIfInBounds i u = #[r',.int .i64 n']) (hr:w.ownsRow B 77 5 r' st.length (partVals st.reverse)):BS C B b r' st n' W0 (w.setCell ⟨b,i,none⟩ u):=by
 have hg:=grown_put w b i u;have ho:=h.out;have hown:∀ {e:TypeId} {sz m:Nat} {v:Value} {xs:List Value},e ≠ 67 -> w.ownsRow B e sz v m xs -> (w.setCell ⟨b,i,none⟩ u).ownsRow B e sz v m xs:=fun {e sz m v xs} h1 hx=>own_type hx hg (fun cur=>ho.2 cur e h1)
 have hk:=same_put (w:=w) (i:=i) (u:=u) ho.1
 refine ⟨by rw [heap_put0 h.blk,he],hown (by decide) hr,fun p hp=>(h.attrs p hp).mono hk (fun _ x=>x),fun p hp=>⟨hown (by decide) (h.kids p hp).row,fun q hq=>⟨((h.kids p hp).each q hq).1.mono hk (fun _ x=>x),((h.kids p hp).each q hq).2.mono hk (fun _ x=>x)⟩,(h.kids p hp).out⟩,h.apart,
  fun p hp=>⟨hown (by decide) (h.tails p hp).1,(h.tails p hp).2⟩,h.quiet,fun g hgC=>⟨by have:=(h.typ g hgC).1;simpa [World.setCell] using this,by rw [hk g hgC];exact (h.typ g hgC).2⟩,h.base,h.below.setCell (p:=⟨b,i,none⟩) h.base u,by simpa [World.setCell] using h.size,h.since.put h.blk (.inl rfl)⟩
theorem BS.setCount {C:Nat -> Prop} {B b:Nat} {r:Value} {st:List PartV} {n:Nat} {W0 w:World} (h:BS C B b r st n W0 w) (m:Nat):BS C B b r st m W0 (w.setCell ⟨b,1,none⟩ (.int .i64 m)):=h.putB 1 _ r m rfl h.row
theorem BS.putP {C:Nat -> Prop} {B b g cap:Nat} {p:PartV} {rest:List PartV} {n:Nat} {W0 w:World} (h:BS C B b (.slice (some ⟨g,0,none⟩) (rest.length + 1) cap) (p :: rest) n W0 w) (p':PartV) (j:Nat) (u:Value) (hj:j < 5)
  (he:[Value.string (str p.name),p.av,.string ⟨#[]⟩,p.kv,p.tv].set j u = [Value.string (str p'.name),p'.av,.string ⟨#[]⟩,p'.kv,p'.tv]) (hv:p'.av = p.av) (ha:p'.attrs = p.attrs)
  (hk:KRow C B p'.kv p'.kids w) (hap:∀ q ∈ rest,p'.kv.ownBlock = none \/ p'.kv.ownBlock ≠ q.kv.ownBlock) (ht:w.ownsRow B 5 1 p'.tv p'.tail.length (cellsOf p'.tail) /\ (p'.tail = [] -> p'.tv = .slice none 0 0)) :
  BS C B b (.slice (some ⟨g,0,none⟩) (rest.length + 1) cap) (p' :: rest) n W0 (w.setCell ⟨g,rest.length * 5 + j,none⟩ u):=by
 obtain ⟨o1,hg⟩:=h.put p' j u hj he;obtain ⟨q1,q2,q3,q4⟩:=h.rowOut;have hown:∀ {e:TypeId} {sz m:Nat} {v:Value} {xs:List Value},e ≠ 77 -> w.ownsRow B e sz v m xs -> (w.setCell ⟨g,rest.length * 5 + j,none⟩ u).ownsRow B e sz v m xs:=fun {e sz m v xs} h1 hx=>own_type hx hg (fun cur=>q4 cur e h1)
 have hkp:=same_put (w:=w) (i:=rest.length * 5 + j) (u:=u) q2;have hK:∀ {v:Value} {ks:List KidV},KRow C B v ks w -> KRow C B v ks (w.setCell ⟨g,rest.length * 5 + j,none⟩ u):=fun {v ks} hx=>⟨hown (by decide) hx.row,fun q hq=>⟨(hx.each q hq).1.mono hkp (fun _ x=>x),(hx.each q hq).2.mono hkp (fun _ x=>x)⟩,hx.out⟩
 have hr:∀ q ∈ rest,q ∈ p :: rest:=fun q hq=>List.mem_cons_of_mem _ hq
 refine ⟨?_,o1,?_,?_,?_,?_,h.quiet,fun x hx=>⟨by have:=(h.typ x hx).1;simpa [World.setCell] using this,by rw [hkp x hx];exact (h.typ x hx).2⟩,h.base,h.below.setCell (p:=⟨g,rest.length * 5 + j,none⟩) q3 u,by simpa [World.setCell] using h.size,h.since.own h.row hg (.inr (.inl rfl))⟩
 ·rw [hg.block b (lt_of_block h.blk) (fun e=>q1 (Option.some.inj e).symm)];exact h.blk
 ·intro q hq;rcases List.mem_cons.1 hq with rfl | hq
  ·rw [hv,ha];exact (h.attrs p (List.mem_cons_self ..)).mono hkp (fun _ x=>x)
  ·exact (h.attrs q (hr q hq)).mono hkp (fun _ x=>x)
 ·intro q hq;rcases List.mem_cons.1 hq with rfl | hq
  ·exact hK hk
  ·exact hK (h.kids q (hr q hq))
 ·exact List.pairwise_cons.2 ⟨hap,(List.pairwise_cons.1 h.apart).2⟩
 ·intro q hq;rcases List.mem_cons.1 hq with rfl | hq
  ·exact ⟨hown (by decide) ht.1,ht.2⟩
  ·exact ⟨hown (by decide) (h.tails q (hr q hq)).1,(h.tails q (hr q hq)).2⟩
theorem BS.pushKid {C:Nat -> Prop} {B b g cap:Nat} {p:PartV} {rest:List PartV} {n:Nat} {W0 w w3:World} {v':Value} {q:KidV} (h:BS C B b (.slice (some ⟨g,0,none⟩) (rest.length + 1) cap) (p :: rest) n W0 w)
  (ho:w3.ownsRow B 36 4 v' (p.kids.length + 1) (nodeVals (p.kids ++ [q]))) (hg:w.grownBy w3 p.kv.ownBlock) (hv:v'.ownBlock = p.kv.ownBlock \/ v'.ownBlock = some w.heap.size)
  (hq:AttrsC C w q.2.1 q.1.1.attrs /\ NodesC C w q.2.2 q.1.2) :
  BS C B b (.slice (some ⟨g,0,none⟩) (rest.length + 1) cap) ({ p with kids:=p.kids ++ [q],kv:=v' } :: rest) n W0 (w3.setCell ⟨g,rest.length * 5 + 3,none⟩ v'):=by
 have hkp:=h.kids p (List.mem_cons_self ..);have hC:∀ k,C k -> k < w.heap.size:=fun k hk=>(h.typ k hk).1
 have hk:∀ x,C x -> w3.heap[x]? = w.heap[x]?:=fun x hx=>hg.block x (hC x hx) (fun e=>hkp.out x e.symm hx)
 have hown:∀ {e:TypeId} {sz m:Nat} {v:Value} {xs:List Value},e ≠ 36 -> w.ownsRow B e sz v m xs -> w3.ownsRow B e sz v m xs:=fun {e sz m v xs} h1 hx=>hx.kept hg (ownsRow_diff h1 hx hkp.row)
 have hb:∀ k (cur:Array Value) (e:TypeId),e ≠ 36 -> w.heap[k]? = some (Obj.cells cur e (0,0)) -> w3.heap[k]? = w.heap[k]?:=fun k cur e h1 hx=>hg.block k (lt_of_block hx) (fun e2=>by
  have:=ownsRow_other hkp.row (r:=k) (fun cur' h2=>by
   rw [hx] at h2;injection h2 with h2;injection h2 with _ h2;exact h1 h2)
  exact this e2.symm)
 have hcl:∀ x ∈ rest,p.kv.ownBlock = none \/ p.kv.ownBlock ≠ x.kv.ownBlock:=(List.pairwise_cons.1 h.apart).1
 have hne:∀ x ∈ rest,x.kv.ownBlock = none \/ x.kv.ownBlock ≠ p.kv.ownBlock:=fun x hx=>by
  rcases hcl x hx with e | e
  ·rw [e];cases x.kv.ownBlock with
   | none=>exact .inl rfl
   | some k=>exact .inr (by simp)
  ·exact .inr (fun e2=>e e2.symm)
 have hK:∀ x ∈ rest,KRow C B x.kv x.kids w3:=fun x hx=>(h.kids x (List.mem_cons_of_mem _ hx)).turned hg hC (fun k e hc=>hkp.out k e hc) (hne x hx)
 have hrow:=h.row;rw [List.length_cons] at hrow;have hrow3:=hown (by decide) hrow
 have hvals:partVals (p :: rest).reverse = partVals (({ p with kids:=p.kids ++ [q],kv:=p.kv }:PartV) :: rest).reverse:=by
  rw [List.reverse_cons,List.reverse_cons,partVals_append,partVals_append];rfl
 have hout3:g ≠ b /\ ¬ C g /\ B <= g /\ ∀ (cur:Array Value) (e:TypeId),e ≠ 77 -> w3.heap[g]? ≠ some (.cells cur e (0,0)):=by
  obtain ⟨q1,q2,q3,q4⟩:=h.rowOut;refine ⟨q1,q2,q3,fun cur e h1 hx=>?_⟩;rcases hrow3.2 with ⟨h0,_⟩ | ⟨g',cap',cur',h0,_,hh,_⟩
  ·cases h0
  ·injection h0 with h0 _ _;injection h0 with h0;injection h0 with h0;subst h0;rw [hh] at hx;injection hx with hx;injection hx with _ hx;exact h1 hx.symm
 obtain ⟨q1,q2,q3,q4⟩:=hout3;obtain ⟨r1,hgp⟩:=hrow3.stored (rest.length * 5 + 3) v';have hown4:∀ {e:TypeId} {sz m:Nat} {v:Value} {xs:List Value},e ≠ 77 -> w3.ownsRow B e sz v m xs -> (w3.setCell ⟨g,rest.length * 5 + 3,none⟩ v').ownsRow B e sz v m xs:=fun {e sz m v xs} h1 hx=>own_type hx hgp (fun cur=>q4 cur e h1)
 have hk4:=same_put (w:=w3) (i:=rest.length * 5 + 3) (u:=v') q2;have hk5:∀ x,C x -> (w3.setCell ⟨g,rest.length * 5 + 3,none⟩ v').heap[x]? = w.heap[x]?:=fun x hx=>(hk4 x hx).trans (hk x hx)
 have hC3:∀ k,C k -> k < w3.heap.size:=fun k hx=>Nat.lt_of_lt_of_le (hC k hx) hg.size
 have hrm:∀ x ∈ rest,x ∈ p :: rest:=fun x hx=>List.mem_cons_of_mem _ hx
 have hvo:∀ k,v'.ownBlock = some k -> ¬ C k:=fun k e hc=>by
  rcases hv with e1 | e1
  ·exact hkp.out k (e1.symm.trans e) hc
  ·rw [e1] at e;injection e with e;exact Nat.lt_irrefl _ (e ▸ hC k hc)
 refine ⟨?_,?_,?_,?_,?_,?_,h.quiet,fun x hx=>⟨by have:=hC3 x hx;simpa [World.setCell] using this,by rw [hk5 x hx];exact (h.typ x hx).2⟩,h.base,(h.below.grown hg h.size (fun k e=>(hkp.row.lt k e).1)).setCell (p:=⟨g,rest.length * 5 + 3,none⟩) q3 v',by have:=Nat.le_trans h.size hg.size;simpa [World.setCell] using this,(h.since.own hkp.row hg (.inr (.inr (.inl rfl)))).own hrow3 hgp (.inr (.inl rfl))⟩
 ·rw [hgp.block b (Nat.lt_of_lt_of_le (lt_of_block h.blk) hg.size) (fun e=>q1 (Option.some.inj e).symm),hb b _ 67 (by decide) h.blk];exact h.blk
 ·rw [hvals] at r1;rw [List.reverse_cons] at r1 ⊢;have e1:=partVals_set rest.reverse ({ p with kids:=p.kids ++ [q],kv:=p.kv }:PartV) 3 (by decide) v';rw [List.length_reverse] at e1;rw [e1] at r1;rw [partVals_append];exact r1
 ·intro x hx;rcases List.mem_cons.1 hx with rfl | hx
  ·exact (h.attrs p (List.mem_cons_self ..)).mono hk5 (fun _ x=>x)
  ·exact (h.attrs x (hrm x hx)).mono hk5 (fun _ x=>x)
 ·intro x hx;rcases List.mem_cons.1 hx with rfl | hx
  ·refine ⟨hown4 (by decide) (by rw [List.length_append];exact ho),fun y hy=>?_,hvo⟩;rcases List.mem_append.1 hy with hy | hy
   ·exact ⟨(hkp.each y hy).1.mono hk5 (fun _ x=>x),(hkp.each y hy).2.mono hk5 (fun _ x=>x)⟩
   ·obtain rfl:=List.mem_singleton.1 hy;exact ⟨hq.1.mono hk5 (fun _ x=>x),hq.2.mono hk5 (fun _ x=>x)⟩
  ·have:=hK x hx;exact ⟨hown4 (by decide) this.row,fun y hy=>⟨(this.each y hy).1.mono hk4 (fun _ x=>x),(this.each y hy).2.mono hk4 (fun _ x=>x)⟩,this.out⟩
 ·refine List.pairwise_cons.2 ⟨fun x hx=>?_,(List.pairwise_cons.1 h.apart).2⟩;show v'.ownBlock = none \/ v'.ownBlock ≠ x.kv.ownBlock
  rcases hv with e | e
  ·rw [e];exact hcl x hx
  ·rw [e];right;intro e2;exact Nat.lt_irrefl _ ((h.kids x (hrm x hx)).row.lt _ e2.symm).2
 ·intro x hx;rcases List.mem_cons.1 hx with rfl | hx
  ·have:=h.tails p (List.mem_cons_self ..);exact ⟨hown4 (by decide) (hown (by decide) this.1),this.2⟩
  ·have:=h.tails x (hrm x hx);exact ⟨hown4 (by decide) (hown (by decide) this.1),this.2⟩
theorem KRow.nodes {C C':Nat -> Prop} {B:Nat} {v:Value} {ks:List KidV} {w:World} (h:KRow C B v ks w) (hC:∀ b,C b -> C' b) (hv:∀ k,v.ownBlock = some k -> C' k):NodesC C' w v (Tr.of (ks.map Prod.fst)):=by
 rcases h.row.2 with ⟨rfl,h0⟩ | ⟨g,cap,cur,rfl,hg,hh,h1,h2,h3,h4⟩
 ·have:=List.eq_nil_of_length_eq_zero h0;subst this;exact .inl ⟨rfl,rfl⟩
 ·have hl:(Tr.of (ks.map Prod.fst)).len = ks.length:=by rw [Tr.len_of,List.length_map]
  refine .inr ⟨⟨g,0,none⟩,cap,by rw [hl],by rw [hl];exact h1,h2,?_⟩;have hcell:∀ j u,(nodeVals ks)[j]? = some u -> w.cell? ((⟨g,0,none⟩:Addr).add j) = some u:=h.row.cells (g:=g) rfl;have hCg:C' g:=hv g rfl
  have main:∀ (l pre:List KidV),ks = pre ++ l -> NodesAt C' w (Tr.of (l.map Prod.fst)) ((⟨g,0,none⟩:Addr).add (pre.length * 4)):=by
   intro l
   induction l with
   | nil=>intro pre _;exact trivial
   | cons q l ih =>
    intro pre hpre;obtain ⟨⟨hd,T⟩,va,vk⟩:=q
    have hat:∀ j,j < 4 -> (nodeVals ks)[pre.length * 4 + j]? = [Value.string (str hd.name),va,.string (str hd.text),vk][j]?:=fun j hj=>by
     rw [hpre,nodeVals_append,List.getElem?_append_right (by rw [nodeVals_length];omega),nodeVals_length,show pre.length * 4 + j - pre.length * 4 = j by omega];unfold nodeVals;rw [List.flatMap_cons,List.getElem?_append_left (by simpa using hj)]
    have hm:=h.each ((hd,T),(va,vk)) (by rw [hpre];exact List.mem_append.2 (.inr (List.mem_cons_self ..)));have c0:=hcell _ _ (hat 0 (by decide));have c1:=hcell _ _ (hat 1 (by decide));have c2:=hcell _ _ (hat 2 (by decide));have c3:=hcell _ _ (hat 3 (by decide));rw [<- Addr.add_add] at c1 c2 c3;refine ⟨by rw [addr_add_block];exact hCg,c0,c2,⟨va,c1,hm.1.mono (fun _ _=>rfl) hC⟩,⟨vk,c3,hm.2.mono (fun _ _=>rfl) hC⟩,?_⟩;have:=ih (pre ++ [((hd,T),(va,vk))]) (by rw [hpre];simp);rw [List.length_append,Nat.add_mul] at this;rw [Addr.add_add];exact this
  have:=main ks [] rfl;rw [List.length_nil,Nat.zero_mul,Addr.add_zero'] at this;exact this
theorem BS.shrink {C:Nat -> Prop} {B b g cap:Nat} {p q:PartV} {rest:List PartV} {n:Nat} {W0 w:World} (h:BS C B b (.slice (some ⟨g,0,none⟩) (rest.length + 1 + 1) cap) (p :: q :: rest) n W0 w) :
  ∃ C':Nat -> Prop,BS C' B b (.slice (some ⟨g,0,none⟩) (rest.length + 1) cap) (q :: rest) n W0 (w.setCell ⟨b,0,none⟩ (.slice (some ⟨g,0,none⟩) (rest.length + 1) cap)) /\
   AttrsC C' (w.setCell ⟨b,0,none⟩ (.slice (some ⟨g,0,none⟩) (rest.length + 1) cap)) p.av p.attrs /\ NodesC C' (w.setCell ⟨b,0,none⟩ (.slice (some ⟨g,0,none⟩) (rest.length + 1) cap)) p.kv (Tr.of (p.kids.map Prod.fst)):=by
 have hkp:=h.kids p (List.mem_cons_self ..);have hrm:∀ x ∈ q :: rest,x ∈ p :: q :: rest:=fun x hx=>List.mem_cons_of_mem _ hx
 have hrow:=h.row
 have hshort:w.ownsRow B 77 5 (.slice (some ⟨g,0,none⟩) (rest.length + 1) cap) (q :: rest).length (partVals (q :: rest).reverse):=by
  refine ⟨by rw [partVals_length,List.length_reverse],?_⟩;rcases hrow.2 with ⟨h0,_⟩ | ⟨g',cap',cur,h0,hg,hh,h1,h2,h3,h4⟩
  ·cases h0
  ·injection h0 with e1 e2 e3;injection e1 with e1;injection e1 with e1;subst e1 e3;refine .inr ⟨g,cap,cur,rfl,hg,hh,by simp only [List.length_cons] at h1 ⊢;omega,h2,h3,?_⟩;have e5:=congrArg (List.take ((q :: rest).length * 5)) h4;rw [List.take_take,Nat.min_eq_left (by simp only [List.length_cons];omega)] at e5;rw [e5,List.reverse_cons,partVals_append];have hl:(partVals (q :: rest).reverse).length = (q :: rest).length * 5:=by rw [partVals_length,List.length_reverse]
   rw [List.take_append_of_le_length (Nat.le_of_eq hl.symm),<- hl,List.take_length]
 obtain ⟨C',hC'⟩:∃ C':Nat -> Prop,C' = fun x=>C x \/ p.kv.ownBlock = some x:=⟨_,rfl⟩
 have hsub:∀ x,C x -> C' x:=fun x hx=>by rw [hC'];exact .inl hx
 have hv:∀ k,p.kv.ownBlock = some k -> C' k:=fun k e=>by rw [hC'];exact .inr e
 have hcl:=(List.pairwise_cons.1 h.apart).1
 have hbs:BS C' B b (.slice (some ⟨g,0,none⟩) (rest.length + 1) cap) (q :: rest) n W0 (w.setCell ⟨b,0,none⟩ (.slice (some ⟨g,0,none⟩) (rest.length + 1) cap)):=by
  have ho:=h.out
  have hnb:¬ C' b:=by
   rw [hC'];rintro (hx | hx)
   ·exact ho.1 hx
   ·exact absurd hx (fun e=>(ownsRow_other hkp.row (r:=b) (fun cur hb=>ho.2 cur _ (by decide) hb)) e)
  have hgp:=grown_put w b 0 (.slice (some ⟨g,0,none⟩) (rest.length + 1) cap);have hown:∀ {e:TypeId} {sz m:Nat} {v:Value} {xs:List Value},e ≠ 67 -> w.ownsRow B e sz v m xs -> (w.setCell ⟨b,0,none⟩ (.slice (some ⟨g,0,none⟩) (rest.length + 1) cap)).ownsRow B e sz v m xs:=fun {e sz m v xs} h1 hx=>own_type hx hgp (fun cur=>ho.2 cur e h1)
  have hk:=same_put (w:=w) (i:=0) (u:=.slice (some ⟨g,0,none⟩) (rest.length + 1) cap) hnb;have hk0:∀ x,C x -> (w.setCell ⟨b,0,none⟩ (.slice (some ⟨g,0,none⟩) (rest.length + 1) cap)).heap[x]? = w.heap[x]?:=fun x hx=>hk x (hsub x hx)
  refine ⟨by rw [heap_put0 h.blk];rfl,hown (by decide) hshort,fun x hx=>(h.attrs x (hrm x hx)).mono hk0 hsub,fun x hx=>?_,(List.pairwise_cons.1 h.apart).2,fun x hx=>⟨hown (by decide) (h.tails x (hrm x hx)).1,(h.tails x (hrm x hx)).2⟩,
   fun x hx=>h.quiet x (by simpa using List.mem_cons_of_mem _ hx),fun x hx=>?_,h.base,h.below.setCell (p:=⟨b,0,none⟩) h.base _,by simpa [World.setCell] using h.size,h.since.put h.blk (.inl rfl)⟩
  ·have hx2:=h.kids x (hrm x hx);refine ⟨hown (by decide) hx2.row,fun y hy=>⟨(hx2.each y hy).1.mono hk0 hsub,(hx2.each y hy).2.mono hk0 hsub⟩,fun k e=>?_⟩;rw [hC'];rintro (hc | hc)
   ·exact hx2.out k e hc
   ·rcases hcl x hx with e1 | e1
    ·rw [e1] at hc;cases hc
    ·exact e1 (hc.trans e.symm)
  ·rw [hk x hx];rw [hC'] at hx;rcases hx with hx | hx
   ·exact ⟨by have:=(h.typ x hx).1;simpa [World.setCell] using this,(h.typ x hx).2⟩
   ·refine ⟨by have:=(hkp.row.lt x hx).2;simpa [World.setCell] using this,fun cur T fz hh=>?_⟩;rcases hkp.row.2 with ⟨e0,_⟩ | ⟨g',cap',cur',e0,_,hh',_⟩
    ·rw [e0] at hx;cases hx
    ·rw [e0] at hx;obtain rfl:g' = x:=by simpa [Value.ownBlock] using hx
     rw [hh'] at hh;injection hh with hh;injection hh with _ hh;exact .inl hh.symm
 have hnb2:¬ C' b:=hbs.out.1;have hk2:=same_put (w:=w) (i:=0) (u:=.slice (some ⟨g,0,none⟩) (rest.length + 1) cap) hnb2;exact ⟨C',hbs,(h.attrs p (List.mem_cons_self ..)).mono (fun x hx=>hk2 x (hsub x hx)) hsub,(hkp.nodes hsub hv).mono hk2 (fun _ x=>x)⟩
theorem BS.pushPart {C:Nat -> Prop} {B b:Nat} {r r':Value} {st:List PartV} {n:Nat} {W0 w w2:World} (h:BS C B b r st n W0 w) (nm:List UInt8) (ats:List AtL) (av:Value) (ha:AttrsC C w av ats) (hq:∀ p ∈ st,p.tail = [])
  (ho:w2.ownsRow B 77 5 r' (st.length + 1) (partVals st.reverse ++ partVals [⟨nm,ats,av,[],.slice none 0 0,[],.slice none 0 0⟩])) (hg:w.grownBy w2 r.ownBlock) :
  BS C B b r' (⟨nm,ats,av,[],.slice none 0 0,[],.slice none 0 0⟩ :: st) n W0 (w2.setCell ⟨b,0,none⟩ r'):=by
 have hC:∀ k,C k -> k < w.heap.size:=fun k hk=>(h.typ k hk).1
 have hrC:∀ k,r.ownBlock = some k -> ¬ C k:=fun k e hc=>by
  rcases h.row.2 with ⟨e0,_⟩ | ⟨g,cap,cur,e0,_⟩
  ·rw [e0] at e;cases e
  ·subst e0;obtain rfl:g = k:=by simpa [Value.ownBlock] using e
   exact h.rowOut.2.1 hc
 have hk:∀ x,C x -> w2.heap[x]? = w.heap[x]?:=fun x hx=>hg.block x (hC x hx) (fun e=>hrC x e.symm hx)
 have hown:∀ {e:TypeId} {sz m:Nat} {v:Value} {xs:List Value},e ≠ 77 -> w.ownsRow B e sz v m xs -> w2.ownsRow B e sz v m xs:=fun {e sz m v xs} h1 hx=>hx.kept hg (ownsRow_diff h1 hx h.row)
 have hblk:w2.heap[b]? = some (.cells #[r,.int .i64 n] 67 (0,0)):=by
  rw [hg.block b (lt_of_block h.blk) (fun e=>(ownsRow_other h.row (r:=b) (fun cur hb=>h.out.2 cur _ (by decide) hb)) e.symm)];exact h.blk
 have hgp:=grown_put w2 b 0 r'
 have hnb:∀ (cur:Array Value) (e:TypeId),e ≠ 67 -> w2.heap[b]? ≠ some (Obj.cells cur e (0,0)):=fun cur e he hx=>by
  rw [hblk] at hx;injection hx with hx;injection hx with _ hx;exact he hx.symm
 have hown4:∀ {e:TypeId} {sz m:Nat} {v:Value} {xs:List Value},e ≠ 67 -> w2.ownsRow B e sz v m xs -> (w2.setCell ⟨b,0,none⟩ r').ownsRow B e sz v m xs:=fun {e sz m v xs} h1 hx=>own_type hx hgp (fun cur=>hnb cur e h1)
 have hk4:=same_put (w:=w2) (i:=0) (u:=r') h.out.1;have hk5:∀ x,C x -> (w2.setCell ⟨b,0,none⟩ r').heap[x]? = w.heap[x]?:=fun x hx=>(hk4 x hx).trans (hk x hx)
 refine ⟨by rw [heap_put0 hblk];rfl,?_,?_,?_,?_,?_,fun p hp=>hq p hp,fun x hx=>⟨by have:=Nat.lt_of_lt_of_le (hC x hx) hg.size;simpa [World.setCell] using this,by rw [hk5 x hx];exact (h.typ x hx).2⟩,h.base,(h.below.grown hg h.size (fun k e=>(h.row.lt k e).1)).setCell (p:=⟨b,0,none⟩) h.base r',by have:=Nat.le_trans h.size hg.size;simpa [World.setCell] using this,(h.since.own h.row hg (.inr (.inl rfl))).put hblk (.inl rfl)⟩
 ·refine hown4 (by decide) ?_;rw [List.length_cons,List.reverse_cons,partVals_append];exact ho
 ·intro x hx;rcases List.mem_cons.1 hx with rfl | hx
  ·exact ha.mono hk5 (fun _ x=>x)
  ·exact (h.attrs x hx).mono hk5 (fun _ x=>x)
 ·intro x hx;rcases List.mem_cons.1 hx with rfl | hx
  ·exact ⟨World.ownsRow_nil _ B _ 4,fun y hy=>(by cases hy),fun k e=>(by cases e)⟩
  ·have:=h.kids x hx;exact ⟨hown4 (by decide) (hown (by decide) this.row),fun y hy=>⟨(this.each y hy).1.mono hk5 (fun _ x=>x),(this.each y hy).2.mono hk5 (fun _ x=>x)⟩,this.out⟩
 ·exact List.pairwise_cons.2 ⟨fun x hx=>.inl rfl,h.apart⟩
 ·intro x hx;rcases List.mem_cons.1 hx with rfl | hx
  ·exact ⟨World.ownsRow_nil _ B _ 1,fun _=>rfl⟩
  ·exact ⟨hown4 (by decide) (hown (by decide) (h.tails x hx).1),(h.tails x hx).2⟩
theorem BS.wider {C C':Nat -> Prop} {B b:Nat} {r:Value} {st:List PartV} {n:Nat} {W0 w:World} (h:BS C B b r st n W0 w) (hs:∀ x,C x -> C' x) (ho:∀ p ∈ st,∀ g,p.kv.ownBlock = some g -> ¬ C' g)
  (ht:∀ g,C' g -> g < w.heap.size /\ ∀ cur T fz,w.heap[g]? = some (.cells cur T fz) -> T = 36 \/ T = 47):BS C' B b r st n W0 w :=
 ⟨h.blk,h.row,fun p hp=>(h.attrs p hp).mono (fun _ _=>rfl) hs,fun p hp=>⟨(h.kids p hp).row,fun q hq=>⟨((h.kids p hp).each q hq).1.mono (fun _ _=>rfl) hs,((h.kids p hp).each q hq).2.mono (fun _ _=>rfl) hs⟩,ho p hp⟩,h.apart,h.tails,h.quiet,ht,h.base,h.below,h.size,h.since⟩
theorem BS.from {C:Nat -> Prop} {B b:Nat} {r:Value} {st:List PartV} {n:Nat} {W0 w:World} (h:BS C B b r st n W0 w):BS C B b r st n w w :=
 ⟨h.blk,h.row,h.attrs,h.kids,h.apart,h.tails,h.quiet,h.typ,h.base,Below.refl _ _,h.size,Since4.refl _⟩
structure PartW where
  name:List UInt8
  attrs:List AtL
  av:Value
  kids:List KidV
  kv:Value
  tail:List UInt8
  tv:Value
  left:List (Value × Tr)
  lv:Value
def washVals (ps:List PartW):List Value:=ps.flatMap fun p=>[.string (str p.name),p.av,.string ⟨#[]⟩,p.kv,p.tv,p.lv]
theorem washVals_length (ls:List PartW):(washVals ls).length = ls.length * 6:=by
 induction ls with
 | nil=>rfl
 | cons f r ih=>unfold washVals at *;rw [List.flatMap_cons,List.length_append,ih];simp;omega
theorem washVals_append (a b:List PartW):washVals (a ++ b) = washVals a ++ washVals b:=by unfold washVals;rw [List.flatMap_append]
theorem washVals_at (ps:List PartW) (p:PartW) (j:Nat) (hj:j < 6) (rest:List PartW):(washVals (ps ++ p :: rest))[ps.length * 6 + j]? = [Value.string (str p.name),p.av,.string ⟨#[]⟩,p.kv,p.tv,p.lv][j]?:=by
 rw [washVals_append,List.getElem?_append_right (by rw [washVals_length];omega),washVals_length,show ps.length * 6 + j - ps.length * 6 = j by omega];unfold washVals;rw [List.flatMap_cons,List.getElem?_append_left (by simpa using hj)]
theorem washVals_set (ps:List PartW) (p:PartW) (j:Nat) (hj:j < 6) (u:Value):(washVals (ps ++ [p])).set (ps.length * 6 + j) u = washVals ps ++ [Value.string (str p.name),p.av,.string ⟨#[]⟩,p.kv,p.tv,p.lv].set j u:=by
 rw [washVals_append,List.set_append_right _ _ (by rw [washVals_length];omega),washVals_length,show ps.length * 6 + j - ps.length * 6 = j by omega];rfl
structure WP (C:Nat -> Prop) (B:Nat) (X:List KidV) (st:List PartW) (W0 w:World):Prop where
  attrs:∀ p ∈ st,AttrsC C w p.av p.attrs
  kids:∀ p ∈ st,KRow C B p.kv p.kids w
  tails:∀ p ∈ st,w.ownsRow B 5 1 p.tv p.tail.length (cellsOf p.tail)
  lefts:∀ p ∈ st,w.ownsRow B 25 1 p.lv p.left.length (p.left.map Prod.fst)
  ins:∀ p ∈ st,∀ q ∈ p.left,NodesIn W0 q.1 q.2
  kap:st.Pairwise (fun p q=>p.kv.ownBlock = none \/ p.kv.ownBlock ≠ q.kv.ownBlock)
  tap:st.Pairwise (fun p q=>p.tv.ownBlock = none \/ p.tv.ownBlock ≠ q.tv.ownBlock)
  lap:st.Pairwise (fun p q=>p.lv.ownBlock = none \/ p.lv.ownBlock ≠ q.lv.ownBlock)
  typ:∀ g,C g -> B <= g /\ g < w.heap.size /\ ∀ cur T fz,w.heap[g]? = some (.cells cur T fz) -> T = 36 \/ T = 47
  base:W0.heap.size <= B
  below:Below B W0 w
  size:B <= w.heap.size
  hand:∀ q ∈ X,AttrsC C w q.2.1 q.1.1.attrs /\ NodesC C w q.2.2 q.1.2
theorem WP.step {C:Nat -> Prop} {X:List KidV} {B:Nat} {p:PartW} {rest:List PartW} {W0 w w':World} {row:Option Nat} (h:WP C B X (p :: rest) W0 w) (hg:w.grownBy w' row) (p':PartW)
  (hr:∀ k,row = some k -> p.kv.ownBlock = some k \/ p.tv.ownBlock = some k \/ p.lv.ownBlock = some k)
  (hv:p'.av = p.av) (ha:p'.attrs = p.attrs)
  (hk:KRow C B p'.kv p'.kids w') (ht:w'.ownsRow B 5 1 p'.tv p'.tail.length (cellsOf p'.tail)) (hl:w'.ownsRow B 25 1 p'.lv p'.left.length (p'.left.map Prod.fst))
  (hi:∀ q ∈ p'.left,NodesIn W0 q.1 q.2)
  (nk:p'.kv.ownBlock = p.kv.ownBlock \/ ∃ k,p'.kv.ownBlock = some k /\ w.heap.size <= k) (nt:p'.tv.ownBlock = p.tv.ownBlock \/ p'.tv.ownBlock = none \/ ∃ k,p'.tv.ownBlock = some k /\ w.heap.size <= k) (nl:p'.lv.ownBlock = p.lv.ownBlock \/ ∃ k,p'.lv.ownBlock = some k /\ w.heap.size <= k) :
  WP C B X (p' :: rest) W0 w' /\ ∀ {e:TypeId} {sz m:Nat} {v:Value} {xs:List Value},e ≠ 36 -> e ≠ 5 -> e ≠ 25 -> w.ownsRow B e sz v m xs -> w'.ownsRow B e sz v m xs:=by
 have hp:=List.mem_cons_self (a:=p) (l:=rest);have hm:∀ q ∈ rest,q ∈ p :: rest:=fun q hq=>List.mem_cons_of_mem _ hq
 obtain ⟨k1,k2⟩:=List.pairwise_cons.1 h.kap;obtain ⟨t1,t2⟩:=List.pairwise_cons.1 h.tap;obtain ⟨l1,l2⟩:=List.pairwise_cons.1 h.lap
 have hty:∀ k,row = some k -> B <= k /\ ∃ cur e,w.heap[k]? = some (Obj.cells cur e (0,0)) /\ ((e = 36 /\ p.kv.ownBlock = some k) \/ (e = 5 /\ p.tv.ownBlock = some k) \/ (e = 25 /\ p.lv.ownBlock = some k)):=fun k e=>by
  have key:∀ {e:TypeId} {sz m:Nat} {v:Value} {xs:List Value},w.ownsRow B e sz v m xs -> v.ownBlock = some k -> B <= k /\ ∃ cur,w.heap[k]? = some (Obj.cells cur e (0,0)):=fun {e sz m v xs} ho hk=>by
   rcases ho.2 with ⟨e0,_⟩ | ⟨g,cap,cur,e0,hg,hh,_⟩
   ·rw [e0] at hk;cases hk
   ·rw [e0] at hk;obtain rfl:g = k:=by simpa [Value.ownBlock] using hk
    exact ⟨hg,cur,hh⟩
  rcases hr k e with e1 | e1 | e1
  ·obtain ⟨h1,cur,h2⟩:=key (h.kids p hp).row e1;exact ⟨h1,cur,_,h2,.inl ⟨rfl,e1⟩⟩
  ·obtain ⟨h1,cur,h2⟩:=key (h.tails p hp) e1;exact ⟨h1,cur,_,h2,.inr (.inl ⟨rfl,e1⟩)⟩
  ·obtain ⟨h1,cur,h2⟩:=key (h.lefts p hp) e1;exact ⟨h1,cur,_,h2,.inr (.inr ⟨rfl,e1⟩)⟩
 have hown:∀ {e:TypeId} {sz m:Nat} {v:Value} {xs:List Value},w.ownsRow B e sz v m xs -> (∀ k,row = some k -> v.ownBlock ≠ some k) -> w'.ownsRow B e sz v m xs:=fun {e sz m v xs} ho hne=>ho.kept hg (by
  cases row with
  | none=>cases hv:v.ownBlock <;> simp
  | some k=>exact .inr (hne k rfl))
 have hdiff:∀ {e:TypeId} {sz m:Nat} {v:Value} {xs:List Value} (k:Nat) (cur:Array Value) (e':TypeId),w.ownsRow B e sz v m xs -> w.heap[k]? = some (Obj.cells cur e' (0,0)) -> e ≠ e' -> v.ownBlock ≠ some k:=fun {e sz m v xs} k cur e' ho hh hne=>ownsRow_other ho (fun cur' hx=>by
  rw [hh] at hx;injection hx with hx;injection hx with _ hx;exact hne hx.symm)
 have hCr:∀ k,row = some k -> ¬ C k:=fun k e hC=>by
  obtain ⟨_,cur,T,h2,h3⟩:=hty k e;rcases h3 with ⟨_,h4⟩ | ⟨rfl,_⟩ | ⟨rfl,_⟩
  ·exact (h.kids p hp).out k h4 hC
  ·rcases (h.typ k hC).2.2 _ _ _ h2 with e1 | e1 <;> exact absurd e1 (by decide)
  ·rcases (h.typ k hC).2.2 _ _ _ h2 with e1 | e1 <;> exact absurd e1 (by decide)
 have hCk:∀ x,C x -> w'.heap[x]? = w.heap[x]?:=fun x hx=>hg.block x (h.typ x hx).2.1 (fun e=>hCr x e.symm hx)
 have hlt:∀ {e:TypeId} {sz m:Nat} {v:Value} {xs:List Value},w.ownsRow B e sz v m xs -> ∀ k,v.ownBlock = some k -> k < w.heap.size:=fun ho k e=>(ho.lt k e).2
 have hrk:∀ q ∈ rest,∀ k,row = some k -> q.kv.ownBlock ≠ some k:=fun q hq k e=>by
  obtain ⟨_,cur,T,h2,h3⟩:=hty k e;rcases h3 with ⟨_,h4⟩ | ⟨rfl,_⟩ | ⟨rfl,_⟩
  ·intro e2;rcases k1 q hq with e3 | e3
   ·rw [h4] at e3;cases e3
   ·exact e3 (h4.trans e2.symm)
  ·exact hdiff k cur _ (h.kids q (hm q hq)).row h2 (by decide)
  ·exact hdiff k cur _ (h.kids q (hm q hq)).row h2 (by decide)
 have hrt:∀ q ∈ rest,∀ k,row = some k -> q.tv.ownBlock ≠ some k:=fun q hq k e=>by
  obtain ⟨_,cur,T,h2,h3⟩:=hty k e;rcases h3 with ⟨rfl,_⟩ | ⟨_,h4⟩ | ⟨rfl,_⟩
  ·exact hdiff k cur _ (h.tails q (hm q hq)) h2 (by decide)
  ·intro e2;rcases t1 q hq with e3 | e3
   ·rw [h4] at e3;cases e3
   ·exact e3 (h4.trans e2.symm)
  ·exact hdiff k cur _ (h.tails q (hm q hq)) h2 (by decide)
 have hrl:∀ q ∈ rest,∀ k,row = some k -> q.lv.ownBlock ≠ some k:=fun q hq k e=>by
  obtain ⟨_,cur,T,h2,h3⟩:=hty k e;rcases h3 with ⟨rfl,_⟩ | ⟨rfl,_⟩ | ⟨_,h4⟩
  ·exact hdiff k cur _ (h.lefts q (hm q hq)) h2 (by decide)
  ·exact hdiff k cur _ (h.lefts q (hm q hq)) h2 (by decide)
  ·intro e2;rcases l1 q hq with e3 | e3
   ·rw [h4] at e3;cases e3
   ·exact e3 (h4.trans e2.symm)
 refine ⟨⟨?_,?_,?_,?_,?_,?_,?_,?_,fun g hC=>⟨(h.typ g hC).1,Nat.lt_of_lt_of_le (h.typ g hC).2.1 hg.size,by rw [hCk g hC];exact (h.typ g hC).2.2⟩,h.base,h.below.grown hg h.size (fun k e=>(hty k e).1),Nat.le_trans h.size hg.size,fun q hq=>⟨(h.hand q hq).1.mono hCk (fun _ x=>x),(h.hand q hq).2.mono hCk (fun _ x=>x)⟩⟩,?_⟩
 ·intro q hq;rcases List.mem_cons.1 hq with rfl | hq
  ·rw [hv,ha];exact (h.attrs p hp).mono hCk (fun _ x=>x)
  ·exact (h.attrs q (hm q hq)).mono hCk (fun _ x=>x)
 ·intro q hq;rcases List.mem_cons.1 hq with rfl | hq
  ·exact hk
  ·have h1:=h.kids q (hm q hq);exact ⟨hown h1.row (hrk q hq),fun y hy=>⟨(h1.each y hy).1.mono hCk (fun _ x=>x),(h1.each y hy).2.mono hCk (fun _ x=>x)⟩,h1.out⟩
 ·intro q hq;rcases List.mem_cons.1 hq with rfl | hq
  ·exact ht
  ·exact hown (h.tails q (hm q hq)) (hrt q hq)
 ·intro q hq;rcases List.mem_cons.1 hq with rfl | hq
  ·exact hl
  ·exact hown (h.lefts q (hm q hq)) (hrl q hq)
 ·intro q hq;rcases List.mem_cons.1 hq with rfl | hq
  ·exact hi
  ·exact h.ins q (hm q hq)
 ·refine List.pairwise_cons.2 ⟨fun q hq=>?_,k2⟩;rcases nk with e | ⟨k,e,hk2⟩
  ·rw [e];exact k1 q hq
  ·exact .inr (fun e2=>by have:=hlt (h.kids q (hm q hq)).row k (e2.symm.trans e);omega)
 ·refine List.pairwise_cons.2 ⟨fun q hq=>?_,t2⟩;rcases nt with e | e | ⟨k,e,hk2⟩
  ·rw [e];exact t1 q hq
  ·exact .inl e
  ·exact .inr (fun e2=>by have:=hlt (h.tails q (hm q hq)) k (e2.symm.trans e);omega)
 ·refine List.pairwise_cons.2 ⟨fun q hq=>?_,l2⟩;rcases nl with e | ⟨k,e,hk2⟩
  ·rw [e];exact l1 q hq
  ·exact .inr (fun e2=>by have:=hlt (h.lefts q (hm q hq)) k (e2.symm.trans e);omega)
 ·intro e sz m v xs n1 n2 n3 ho;refine hown ho (fun k ek=>?_);obtain ⟨_,cur,T,h2,h3⟩:=hty k ek;rcases h3 with ⟨rfl,_⟩ | ⟨rfl,_⟩ | ⟨rfl,_⟩
  ·exact hdiff k cur _ ho h2 n1
  ·exact hdiff k cur _ ho h2 n2
  ·exact hdiff k cur _ ho h2 n3
theorem WP.turned {C:Nat -> Prop} {X:List KidV} {B:Nat} {st:List PartW} {W0 w w':World} {row:Option Nat} (h:WP C B X st W0 w) (hg:w.grownBy w' row)
  (hr:∀ k,row = some k -> B <= k /\ ¬ C k /\ ∀ cur,w.heap[k]? ≠ some (.cells cur 36 (0,0)) /\ w.heap[k]? ≠ some (.cells cur 5 (0,0)) /\ w.heap[k]? ≠ some (.cells cur 25 (0,0))):WP C B X st W0 w':=by
 have hCk:∀ x,C x -> w'.heap[x]? = w.heap[x]?:=fun x hx=>hg.block x (h.typ x hx).2.1 (fun e=>(hr x e.symm).2.1 hx)
 have hown:∀ {e:TypeId} {sz m:Nat} {v:Value} {xs:List Value},w.ownsRow B e sz v m xs -> (∀ k,row = some k -> ∀ cur,w.heap[k]? ≠ some (.cells cur e (0,0))) -> w'.ownsRow B e sz v m xs:=fun {e sz m v xs} ho hne=>ho.kept hg (by
  cases row with
  | none=>cases hv:v.ownBlock <;> simp
  | some k=>exact .inr (ownsRow_other ho (hne k rfl)))
 exact ⟨fun q hq=>(h.attrs q hq).mono hCk (fun _ x=>x),fun q hq=>⟨hown (h.kids q hq).row (fun k e cur=>((hr k e).2.2 cur).1),fun y hy=>⟨((h.kids q hq).each y hy).1.mono hCk (fun _ x=>x),((h.kids q hq).each y hy).2.mono hCk (fun _ x=>x)⟩,(h.kids q hq).out⟩,
  fun q hq=>hown (h.tails q hq) (fun k e cur=>((hr k e).2.2 cur).2.1),fun q hq=>hown (h.lefts q hq) (fun k e cur=>((hr k e).2.2 cur).2.2),h.ins,h.kap,h.tap,h.lap,fun g hC=>⟨(h.typ g hC).1,Nat.lt_of_lt_of_le (h.typ g hC).2.1 hg.size,by rw [hCk g hC];exact (h.typ g hC).2.2⟩,h.base,h.below.grown hg h.size (fun k e=>(hr k e).1),Nat.le_trans h.size hg.size,fun q hq=>⟨(h.hand q hq).1.mono hCk (fun _ x=>x),(h.hand q hq).2.mono hCk (fun _ x=>x)⟩⟩
theorem WP.kept {C:Nat -> Prop} {X:List KidV} {B:Nat} {st:List PartW} {W0 w w':World} (h:WP C B X st W0 w) (hb:Below w.heap.size w w'):WP C B X st W0 w':=h.turned (grown_none hb) (fun k e=>by cases e)
structure WS (C:Nat -> Prop) (B:Nat) (X:List KidV) (r:Value) (st:List PartW) (W0 w:World):Prop where
  row:w.ownsRow B 84 6 r st.length (washVals st.reverse)
  ps:WP C B X st W0 w
theorem WS.kept {C:Nat -> Prop} {X:List KidV} {B:Nat} {r:Value} {st:List PartW} {W0 w w':World} (h:WS C B X r st W0 w) (hb:Below w.heap.size w w'):WS C B X r st W0 w' :=
 ⟨h.row.kept (grown_none hb) (by cases hv:r.ownBlock <;> simp),h.ps.kept hb⟩
theorem WS.form {C:Nat -> Prop} {X:List KidV} {B:Nat} {r:Value} {st:List PartW} {W0 w:World} (h:WS C B X r st W0 w) (hs:st ≠ []):∃ g cap,r = .slice (some ⟨g,0,none⟩) st.length cap /\ st.length <= cap /\ cap <= maxLen /\ B <= g /\ g < w.heap.size:=by
 rcases h.row.2 with ⟨rfl,h0⟩ | ⟨g,cap,cur,rfl,hg,hh,hc,hm,_⟩
 ·exact absurd (List.eq_nil_of_length_eq_zero h0) hs
 ·exact ⟨g,cap,rfl,hc,hm,hg,lt_of_block hh⟩
theorem WS.cells {C:Nat -> Prop} {X:List KidV} {B g cap:Nat} {p:PartW} {rest:List PartW} {W0 w:World} (h:WS C B X (.slice (some ⟨g,0,none⟩) (rest.length + 1) cap) (p :: rest) W0 w) :
  w.cell? ⟨g,rest.length * 6,none⟩ = some (.string (str p.name)) /\ w.cell? ⟨g,rest.length * 6 + 1,none⟩ = some p.av /\ w.cell? ⟨g,rest.length * 6 + 2,none⟩ = some (.string ⟨#[]⟩) /\ w.cell? ⟨g,rest.length * 6 + 3,none⟩ = some p.kv /\ w.cell? ⟨g,rest.length * 6 + 4,none⟩ = some p.tv /\ w.cell? ⟨g,rest.length * 6 + 5,none⟩ = some p.lv /\ (∀ i,w.frozen? ⟨g,i,none⟩ = false):=by
 have hr:=h.row;rw [List.length_cons] at hr
 have hc:∀ j,j < 6 -> w.cell? ⟨g,rest.length * 6 + j,none⟩ = [Value.string (str p.name),p.av,.string ⟨#[]⟩,p.kv,p.tv,p.lv][j]?:=fun j hj=>by
  rw [hr.cellAt _ (by omega)];have:=washVals_at rest.reverse p j hj [];rw [List.length_reverse] at this;rw [List.reverse_cons];exact this
 exact ⟨hc 0 (by decide),hc 1 (by decide),hc 2 (by decide),hc 3 (by decide),hc 4 (by decide),hc 5 (by decide),fun i=>hr.frozenAt i⟩
theorem WS.out {C:Nat -> Prop} {X:List KidV} {B g m cap:Nat} {st:List PartW} {W0 w:World} (h:WS C B X (.slice (some ⟨g,0,none⟩) m cap) st W0 w):¬ C g /\ B <= g /\ ∀ (cur:Array Value) (e:TypeId),e ≠ 84 -> w.heap[g]? ≠ some (.cells cur e (0,0)):=by
 rcases h.row.2 with ⟨h0,_⟩ | ⟨g',cap',cur,h0,hg,hh,hc,hm,_⟩
 ·cases h0
 ·injection h0 with h0 _ _;injection h0 with h0;injection h0 with h0;subst h0;refine ⟨fun hC=>?_,hg,fun cur' e he hx=>?_⟩
  ·rcases (h.ps.typ g hC).2.2 _ _ _ hh with e | e <;> exact absurd e (by decide)
  ·rw [hh] at hx;injection hx with hx;injection hx with _ hx;exact he hx.symm
theorem WS.step {C:Nat -> Prop} {X:List KidV} {B g cap:Nat} {p:PartW} {rest:List PartW} {W0 w w':World} {row:Option Nat} (h:WS C B X (.slice (some ⟨g,0,none⟩) (rest.length + 1) cap) (p :: rest) W0 w) (hg:w.grownBy w' row) (p':PartW) (j:Nat) (u:Value) (hj:j < 6)
  (he:[Value.string (str p.name),p.av,.string ⟨#[]⟩,p.kv,p.tv,p.lv].set j u = [Value.string (str p'.name),p'.av,.string ⟨#[]⟩,p'.kv,p'.tv,p'.lv])
  (hr:∀ k,row = some k -> p.kv.ownBlock = some k \/ p.tv.ownBlock = some k \/ p.lv.ownBlock = some k)
  (hv:p'.av = p.av) (ha:p'.attrs = p.attrs)
  (hk:KRow C B p'.kv p'.kids w') (ht:w'.ownsRow B 5 1 p'.tv p'.tail.length (cellsOf p'.tail)) (hl:w'.ownsRow B 25 1 p'.lv p'.left.length (p'.left.map Prod.fst))
  (hi:∀ q ∈ p'.left,NodesIn W0 q.1 q.2)
  (nk:p'.kv.ownBlock = p.kv.ownBlock \/ ∃ k,p'.kv.ownBlock = some k /\ w.heap.size <= k) (nt:p'.tv.ownBlock = p.tv.ownBlock \/ p'.tv.ownBlock = none \/ ∃ k,p'.tv.ownBlock = some k /\ w.heap.size <= k) (nl:p'.lv.ownBlock = p.lv.ownBlock \/ ∃ k,p'.lv.ownBlock = some k /\ w.heap.size <= k) :
  WS C B X (.slice (some ⟨g,0,none⟩) (rest.length + 1) cap) (p' :: rest) W0 (w'.setCell ⟨g,rest.length * 6 + j,none⟩ u):=by
 obtain ⟨s1,s2⟩:=h.ps.step hg p' hr hv ha hk ht hl hi nk nt nl;have hrow:=s2 (by decide) (by decide) (by decide) h.row;obtain ⟨q1,q2,_⟩:=h.out;rw [List.length_cons] at hrow;obtain ⟨r1,r2⟩:=hrow.stored (rest.length * 6 + j) u
 have hty:∀ (cur:Array Value) (e:TypeId),e ≠ 84 -> w'.heap[g]? ≠ some (.cells cur e (0,0)):=fun cur e he hx=>by
  rcases hrow.2 with ⟨h0,_⟩ | ⟨g',cap',cur',h0,hg',hh,_⟩
  ·cases h0
  ·injection h0 with h0 _ _;injection h0 with h0;injection h0 with h0;subst h0;rw [hh] at hx;injection hx with hx;injection hx with _ hx;exact he hx.symm
 refine ⟨?_,s1.turned (row:=some g) r2 (fun k e=>?_)⟩
 ·rw [List.reverse_cons] at r1 ⊢;have e1:=washVals_set rest.reverse p j hj u;rw [List.length_reverse] at e1;rw [e1,he] at r1;rw [washVals_append,List.length_cons];exact r1
 ·injection e with e;subst e;exact ⟨q2,q1,fun cur=>⟨hty cur _ (by decide),hty cur _ (by decide),hty cur _ (by decide)⟩⟩
theorem inner14_any (C:Nat -> Prop) (B b:Nat) (r:Value) (st:List PartV) (n:Nat) (W0 w:World) (h:BS C B b r st n W0 w) (hs:st ≠ []) (hl:st.length <= 1048576) :
  Calls Tryz.prog 37 #[.pointer (some ⟨b,0,none⟩)] w fun e w'=>(∃ g cap,r = .slice (some ⟨g,0,none⟩) st.length cap /\ e = .returned (.pointer (some ⟨g,(st.length - 1) * 5,none⟩))) /\ ∃ m,w' = w.drewN m:=by
 obtain ⟨g,cap,rfl,h1,h2,h3,h4⟩:=h.form hs;have c0:=h.c0;obtain ⟨k,hk⟩:∃ k,st.length = k + 1:=⟨st.length - 1,by have:=List.length_pos_iff.2 hs;omega⟩
 rw [hk] at c0 hl ⊢;have tn1:wrap64 (((k + 1:Nat):Int) - 1) = (k:Int):=by unfold wrap64;omega
 have tn4:wrap64 ((k:Int) + 1 - 1) = (k:Int):=by unfold wrap64;omega
 have tn2:((k + 1:Nat):Int) - 1 = (k:Int):=by omega
 have tn5:(k:Int) < (k:Int) + 1:=by omega
 clear h hs hk h1 h2 h3 h4;go_enter Tryz.func37,Tryz.ntmps37;go_wp2_with fail;go_quiet (fail);go_wp2_with fail;go_ret;exact ⟨⟨g,cap,rfl,rfl⟩,nq,rfl⟩
theorem take_no (C:Nat -> Prop) (B b:Nat) (r:Value) (st:List PartV) (W0 w:World) (h:BS C B b r st 5000 W0 w) :
  Calls Tryz.prog 53 #[.pointer (some ⟨b,0,none⟩)] w fun e w'=>e = .returned (.bool false) /\ w = w':=by
 have c1:=h.c1;clear h;go_enter Tryz.func53,Tryz.ntmps53;go_wp2_with fail;go_ret;exact ⟨rfl,rfl⟩
theorem take_yes (C:Nat -> Prop) (B b:Nat) (r:Value) (st:List PartV) (n:Nat) (W0 w:World) (h:BS C B b r st n W0 w) (hn:n < 5000) :
  Calls Tryz.prog 53 #[.pointer (some ⟨b,0,none⟩)] w fun e w'=>e = .returned (.bool true) /\ BS C B b r st (n + 1) W0 w':=by
 have c1:=h.c1;have f1:=h.free 1;have t0:((n:Int) == 5000) = false:=beq_eq_false_iff_ne.2 (by omega);have HB:=hide (h.setCount (n + 1));clear h;go_enter Tryz.func53,Tryz.ntmps53;go_wp2_with fail;go_ret;exact ⟨rfl,HB.out⟩
theorem freeze_other (w:World) (g n k:Nat) (h:k ≠ g):(w.freeze ⟨g,0,none⟩ n).heap[k]? = w.heap[k]?:=by
 unfold World.freeze;split
 ·rfl
 ·simp [Array.getElem?_modify,Ne.symm h]
theorem freeze_size (w:World) (g n:Nat):(w.freeze ⟨g,0,none⟩ n).heap.size = w.heap.size:=by
 unfold World.freeze;split <;> simp
theorem RowsK.freeze {w:World} {g n cap:Nat} {cur:Array Value} (hg:w.heap[g]? = some (.cells cur 5 (0,0))):RowsK w (w.freeze ⟨g,0,none⟩ n):=fun B e sz m x xs h1 _ hx =>
 hx.kept (row:=some g) ⟨by unfold World.freeze;split <;> rfl,by unfold World.freeze;split <;> rfl,by unfold World.freeze;split <;> rfl,by rw [freeze_size];exact Nat.le_refl _,fun k _ hk=>freeze_other w g n k (fun e=>hk (by rw [e]))⟩ (.inr (ownsRow_other hx (fun cur' hc=>by
  rw [hg] at hc;injection hc with hc;injection hc with _ hc;exact h1 hc.symm)))
def RdrS (B b:Nat) (o:Value) (vs:List TokV) (W0 w:World):Prop:=(∃ a v,RdC w b o a v) /\ TRow B o vs w /\ B <= b /\ Below B W0 w /\ B <= w.heap.size
theorem stringR_any (B b:Nat) (o:Value) (vs:List TokV) (x:List UInt8) (W0 w:World) (h:Rdr B b o vs x W0 w) (h0:x ≠ []) :
  Calls Tryz.prog 71 #[.pointer (some ⟨b,1,none⟩)] w fun e w'=>e = .returned (.string (str x)) /\ RdrS B b o vs W0 w' /\ w.heap.size <= w'.heap.size /\ (∀ (k:Nat),(∀ (cur:Array Value) (fr:Nat × Nat),w.heap[k]? ≠ some (Obj.cells cur 5 fr)) -> w'.heap[k]? = w.heap[k]?):=by
 obtain ⟨⟨a,v,h1,h2,h3,h4⟩,ht,hB,hW,hz⟩:=h;have hl0:x.length ≠ 0:=by simpa using h0
 obtain ⟨g,cap,cur,rfl,hbg,hg,hnc,hcm,hcs,htake⟩:∃ g cap cur,v = .slice (some ⟨g,0,none⟩) x.length cap /\ B <= g /\ w.heap[g]? = some (.cells cur 5 (0,0)) /\ x.length <= cap /\ cap <= maxLen /\ cur.size = cap * 1 /\ cur.toList.take (x.length * 1) = cellsOf x:=by
  rcases h3.2 with ⟨_,hz⟩ | ⟨g,cap,cur,hv,r⟩
  ·exact absurd hz hl0
  ·exact ⟨g,cap,cur,hv,r⟩
 have hgb:g ≠ b:=fun e=>h4 (by rw [e];rfl)
 have c2:w.cell? ⟨b,2,none⟩ = some (.slice (some ⟨g,0,none⟩) x.length cap):=h1.cell2;have c2d:w.drew.cell? ⟨b,2,none⟩ = some (.slice (some ⟨g,0,none⟩) x.length cap):=c2
 have hSD:(Builtin.unsafeSliceData_ #[58] 137 #[.slice (some ⟨g,0,none⟩) x.length cap]).run Tryz.prog w.drew = .ok (.pointer (some ⟨g,0,none⟩)) w.drew :=
  Lib.run_unsafeSliceData_row _ _ _ _ _ _ (by omega)
 have hUS:(Builtin.unsafeString_ #[137,3] 9 #[.pointer (some ⟨g,0,none⟩),.int .i64 x.length]).run Tryz.prog w.drew = .ok (.string (str x)) (w.drew.freeze ⟨g,0,none⟩ x.length):=by
  refine Lib.run_unsafeString_row w.drew 137 3 9 5 Tryz.underlying137 (by kernel_rfl) g cur.size (by have hg':w.drew.heap[g]? = some (.cells cur 5 (0,0)):=hg;simp [World.shape?,hg']) x h0 (by omega) (by unfold maxLen at hcm;omega) ?_;intro j y hy;exact h3.cells (g:=g) rfl j (.int .u8 y.toNat) (by simp [cellsOf,hy])
 have HKK:Hid (w.heap.size <= (w.drew.freeze ⟨g,0,none⟩ x.length).heap.size /\ (∀ (k:Nat),(∀ (cur:Array Value) (fr:Nat × Nat),w.heap[k]? ≠ some (Obj.cells cur 5 fr)) -> (w.drew.freeze ⟨g,0,none⟩ x.length).heap[k]? = w.heap[k]?)):=hide (by
  refine ⟨by rw [freeze_size];exact Nat.le_refl _,fun k hk=>?_⟩;exact freeze_other w.drew g x.length k (fun e=>hk cur (0,0) (by rw [e];exact hg)))
 have HS:Hid (RdrS B b o vs W0 (w.drew.freeze ⟨g,0,none⟩ x.length)):=hide (by
  have hgd:w.drew.heap[g]? = some (.cells cur 5 (0,0)):=hg;have htd:TRow B o vs w.drew:=⟨ht.row,ht.each⟩
  refine ⟨⟨a,_,(freeze_other w.drew g x.length b (Ne.symm hgb)).trans h1⟩,htd.rows (RowsK.freeze (cap:=cap) hgd),hB,Lib.below_freeze hW.drew (p:=⟨g,0,none⟩) hbg _,?_⟩;rw [freeze_size];exact hz)
 clear h1 h2 h3 h4 ht hB hW hz hg hcs htake hnc hcm hbg hgb h0;go_enter Tryz.func71,Tryz.ntmps71;go_wp2_with fail;go_region
 all_goals
  try go_wp2_with fail
  go_ret;exact ⟨rfl,HS.out,HKK.out⟩
theorem resetR_any (B b:Nat) (o:Value) (vs:List TokV) (W0 w:World) (h:RdrS B b o vs W0 w) :
  Calls Tryz.prog 81 #[.pointer (some ⟨b,1,none⟩)] w fun e w'=>e = .returned (.tuple #[]) /\ Rdr B b o vs [] W0 w' /\ w.heap.size <= w'.heap.size /\ ∀ (k:Nat),k ≠ b -> w'.heap[k]? = w.heap[k]?:=by
 obtain ⟨⟨a,v,h1⟩,ht,hB,hW,hz⟩:=h;have f1:=h1.free 1;have c1:=h1.cell1;have k1:=h1.put1 (.pointer none);have f2:=k1.free 2;have d2:=k1.cell2
 have HR:Hid (Rdr B b o vs [] W0 ((w.setCell ⟨b,1,none⟩ (.pointer none)).setCell ⟨b,2,none⟩ (.slice none 0 0))):=hide
  ⟨⟨_,_,k1.put2 _,.inl rfl,World.ownsRow_nil _ B _ 1,by simp [Value.ownBlock]⟩,ht.rows ((RowsK.put h1 1 _).trans (RowsK.put k1 2 _)),hB,(hW.setCell (p:=⟨b,1,none⟩) hB _).setCell (p:=⟨b,2,none⟩) hB _,by simpa [World.setCell] using hz⟩
 have HK:Hid (w.heap.size <= ((w.setCell ⟨b,1,none⟩ (.pointer none)).setCell ⟨b,2,none⟩ (.slice none 0 0)).heap.size /\ ∀ k,k ≠ b -> ((w.setCell ⟨b,1,none⟩ (.pointer none)).setCell ⟨b,2,none⟩ (.slice none 0 0)).heap[k]? = w.heap[k]?):=hide
  ⟨by simp [World.setCell],fun k hk=>(Below.heap_setCell _ _ _ k (fun e=>hk (by rw [e]))).trans (Below.heap_setCell _ _ _ k (fun e=>hk (by rw [e])))⟩
 clear h1 ht hB hW hz k1;go_enter Tryz.func81,Tryz.ntmps81;go_wp2_with fail;go_end0;exact ⟨rfl,HR.out,HK.out⟩
theorem step_toks {ops:Array Oper} {o:Oper} {a:Act} {w:World} {K:Act -> World -> Prop} {Q:Exit -> Act -> World -> Prop} {E:Prop} (hgd:o.guard = none) (s x:Operand)
  (ho:o.op = .call { callee:=.builtin .append,args:=#[s,x],argTypes:=#[68,68] })
  (B:Nat) (v:Value) (ls:List TokV) (hs:a.eval s = v) (t:TokL) (u:Value) (hb:TRow B v ls w) (hu:w.ownsRow B 47 2 u t.attrs.length (atVals t.attrs)) (hB:B <= w.heap.size) (ad:Addr)
  (hx:a.eval x = .slice (some ad) 1 1) (h0:w.cell? (ad.add 0) = some (.int .i64 (t.kind:Int))) (h1:w.cell? (ad.add 1) = some (.string (str t.name))) (h2:w.cell? (ad.add 2) = some u) (h3:w.cell? (ad.add 3) = some (.string (str t.text)))
  (hlen:ls.length + 1 <= 2199023255552)
  (h:∀ v' w',TRow B v' (ls ++ [(t,u)]) w' -> w.grownBy w' v.ownBlock -> K (a.put o.dst v') w') :
  if Region.wanted o (yielded ops a.tmps) = true then Oper.wp Tryz.prog o a w K Q else E:=by
 have hw:Region.wanted o (yielded ops a.tmps) = true:=by simp [Region.wanted,hgd]
 rw [if_pos hw];obtain ⟨i0,hi,hz0,hz1,hz2⟩:=info_parts info_tok
 obtain ⟨A,c,rfl⟩:∃ A c,u = .slice A t.attrs.length c:=by
  rcases hu.2 with ⟨rfl,h0⟩ | ⟨g,cap,cur,rfl,_⟩
  ·rw [h0];exact ⟨_,_,rfl⟩
  ·exact ⟨_,_,rfl⟩
 refine wp_append_own _ s x 68 ho B 71 i0 (.agg #[.int .i64 0,.string ByteArray.empty,.slice none 0 0,.string ByteArray.empty]) 4 64 Tryz.underlying68 hi hz0 hz1 hz2 rfl (by decide) v ls.length (tokVals ls) hs hb.row ad 1 1 (tokVals [(t,.slice A t.attrs.length c)]) hx rfl ?_ ?_ (by unfold maxLen;omega) (by omega) hB ?_
 ·intro j u hj
  match j,hj with
  | 0,hj=>simp [tokVals] at hj;subst hj;exact h0
  | 1,hj=>simp [tokVals] at hj;subst hj;exact h1
  | 2,hj=>simp [tokVals] at hj;subst hj;exact h2
  | 3,hj=>simp [tokVals] at hj;subst hj;exact h3
  | (j + 4),hj=>simp [tokVals] at hj
 ·intro u hu;simp [tokVals] at hu;rcases hu with rfl | rfl | rfl | rfl <;> rfl
 ·intro v' w' ho' hg _;exact h v' w' (hb.push hu ho' hg) hg
end Go.Proofs.YtmgpmdfmkdhfgaaGreatDoor
