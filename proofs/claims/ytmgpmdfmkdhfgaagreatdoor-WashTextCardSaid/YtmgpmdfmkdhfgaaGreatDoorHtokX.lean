import Derived.Test.YtmgpmdfmkdhfgaaGreatDoorHtokK
import Derived.Test.YtmgpmdfmkdhfgaaGreatDoorBaseT
namespace Go.Proofs.YtmgpmdfmkdhfgaaGreatDoor
open Go.RowKit
set_option linter.unusedVariables false
set_option linter.unusedSimpArgs false
set_option maxRecDepth 100000
theorem startL_len2 (dec:List UInt8 -> List UInt8) (l:List UInt8):(startL dec l).2.1.length + (startL dec l).2.2.length <= l.length:=by
 unfold startL;cases h:tagL dec l with
 | none=>exact Nat.zero_le _
 | some p =>
  obtain ⟨n,A,b⟩:=p;have:=tagL_len h;simp only;split
  ·show (b.take _).length + (b.drop _).length <= _
   rw [List.length_drop,List.length_take];omega
  ·show ([]:List UInt8).length + b.length <= _
   simp only [List.length_nil];omega
theorem endL_nil (dec:List UInt8 -> List UInt8) (l:List UInt8):(endL dec l).2.1 = []:=by
 unfold endL;cases h:tagL dec l with
 | none=>rfl
 | some p=>rfl
theorem longL_nil (l:List UInt8):(longL l).2.1 = []:=by
 unfold longL;split <;> rfl
theorem markL_len2 (dec:List UInt8 -> List UInt8) (l:List UInt8):(markL dec l).2.1.length + (markL dec l).2.2.length <= l.length:=by
 have h:=markL_len dec l
 by_cases hs:(markL dec l).2.1 = []
 ·rw [hs];simpa using h
 ·have:markL dec l = startL dec l:=by
   unfold markL at hs ⊢;split at hs
   ·split at hs
    ·exact absurd rfl hs
    ·split at hs
     ·exact absurd (endL_nil _ _) hs
     ·split at hs
      ·exact absurd rfl hs
      ·exact absurd rfl hs
   ·split at hs
    ·exact absurd (longL_nil _) hs
    ·exact absurd rfl hs
   ·exact absurd rfl hs
   ·rfl
  rw [this];exact startL_len2 dec l
theorem addT_len (L:List TokL) (x:List UInt8) (m:MarkR):(addT L x m).2.length <= x.length + m.2.1.length:=by
 unfold addT;cases m.1 with
 | none=>show (x ++ m.2.1).length <= _;rw [List.length_append];exact Nat.le_refl _
 | some t=>exact Nat.le_add_left _ _
theorem rdr_new (w:World):Rdr w.heap.size w.heap.size (.slice none 0 0) [] [] w (w.alloc (.cells #[.slice none 0 0,.pointer none,.slice none 0 0] 101)) :=
 ⟨⟨.pointer none,.slice none 0 0,by show (w.heap.push _)[w.heap.size]? = _;exact Array.getElem?_push_size,.inl rfl,World.ownsRow_nil _ _ _ 1,by simp [Value.ownBlock]⟩,TRow.nil _ _,Nat.le_refl _,(Below.refl _ _).alloc (Nat.le_refl _) _,by rw [World.size_alloc];exact Nat.le_succ _⟩
set_option maxHeartbeats 8000000 in
theorem scan_any (s:ByteArray) (m:Int) (w:World) (hs:s.size <= 16777216) (hE:EnvE w) (hm:w.cell? ⟨0,0,none⟩ = some (.int .i64 m)) :
  Calls Tryz.prog 31 #[.string s] w fun e w'=>∃ v vs,e = .returned v /\ TRow w.heap.size v vs w' /\ vs.map Prod.fst = scanL decE [] [] s.data.toList /\ Below w.heap.size w w':=by
 have HN:=hide (rdr_new w);have HE:=hide hE;have hmlt:=World.block_lt_of_cell? _ _ hm;have HM:=hide (fun w' (hb:Below w.heap.size w w')=>(hb.cell (p:=⟨0,0,none⟩) hmlt).trans hm);clear hE hm hmlt;go_enter Tryz.func31,Tryz.ntmps31;go_wp2_with fail;go_loopw [0] (fun sv wr=>∃ (S:ByteArray) (o:Value) (vs:List TokV) (x:List UInt8),sv = .string S /\ S.size <= 16777216 /\ Hid (Rdr w.heap.size w.heap.size o vs x w wr) /\ Hid (scanL decE (vs.map Prod.fst) x S.data.toList = scanL decE [] [] s.data.toList) /\ Hid (vs.length + 2 * S.size <= 2 * s.size /\ x.length + S.size <= s.size)) (fun sv _=>szStr sv)
 case atStart=>exact ⟨s,_,[],[],rfl,hs,HN,hide rfl,hide ⟨by simp,by simp⟩⟩
 case round =>
  obtain ⟨S,o,vs,x,rfl,hS,HR,HG,HZ⟩:=hrel;have hSl:=toList_length S;cases hl:S.data.toList with
  | nil =>
   have t0:S.toList.isEmpty = true:=by rw [bytes_list,hl];rfl
   have t1:S.toList = []:=by rw [bytes_list,hl]
   have HG2:Hid (flushT (vs.map Prod.fst) x = scanL decE [] [] s.data.toList):=hide (by rw [<- HG.out,hl,scanL_nil]);have HT:=hide (endText_any _ _ o vs x w wr HR.out (by have:=HZ.out.1;omega));clear hSl hl;go_wp2_with fail;refine HT.out.mono ?_;rintro e w1 ⟨rfl,o2,vs2,r2,m2,l2,k2⟩;obtain ⟨a2,v2,c2⟩:=r2.cell;have d2:=c2.cell0;have HB:=hide r2.below;have HT2:=hide r2.toks;have HM2:=hide m2;clear r2 m2 l2 k2 c2;go_wp2_with fail;go_ret;exact ⟨o2,vs2,rfl,HT2.out,HM2.out.trans HG2.out,HB.out⟩
  | cons c r =>
   have t0:S.toList.isEmpty = false:=by rw [bytes_list,hl];rfl
   have hSz:S.size = r.length + 1:=by rw [<- hSl,hl];rfl
   have hf:=firstMark_any S wr hS;rw [hl] at hf;have hle:=markN_le (c :: r);obtain ⟨K,hK⟩:∃ K,K = markN (c :: r):=⟨_,rfl⟩
   rw [<- hK] at hf hle;have HF:=hide hf
   by_cases h0:0 < K
   ·have q0:(0:Int) <= K:=by omega
    have q1:(K:Int) <= S.size:=by rw [hSz];simp only [List.length_cons] at hle;omega
    obtain ⟨P,hP⟩:∃ P,S.extract 0 K = P:=⟨_,rfl⟩
    obtain ⟨Q,hQ⟩:∃ Q,S.extract K S.size = Q:=⟨_,rfl⟩
    have hPl:P.data.toList = (c :: r).take K:=by rw [<- hP,extract_list,List.drop_zero,hl]
    have hQl:Q.data.toList = (c :: r).drop K:=by rw [<- hQ,extract_end,hl]
    have hPz:P.size = K:=by rw [<- toList_length,hPl,List.length_take];omega
    have hQz:Q.size = S.size - K:=by rw [<- toList_length,hQl,List.length_drop,hSz];rfl
    have hstep:=HG.out;rw [hl,scanL_text decE _ _ (by rw [<- hK];exact h0),<- hK,<- hPl,<- hQl] at hstep;have hdl:=decE_len _ P.data.toList (Nat.le_refl _);rw [toList_length] at hdl;have hdec:=fun w2 h=>entDecode_any P w2 (by omega) h
    obtain ⟨D,hD⟩:∃ D,D = decE P.data.toList:=⟨_,rfl⟩
    rw [<- hD] at hstep hdl hdec;have HD:=hide hdec;have HST:=hide hstep
    have HZ2:Hid (vs.length + 2 * Q.size <= 2 * s.size /\ (x ++ D).length + Q.size <= s.size):=hide (by
     have:=HZ.out;rw [List.length_append];omega)
    have HW:=hide (fun w2 (h2:Rdr w.heap.size w.heap.size o vs x w w2)=>writeR_any _ _ o vs x (str D) w w2 h2 (by rw [str_size];have:=HZ.out;omega));rw [str_toList] at HW;have hQS:Q.size < S.size:=by omega
    have HQS:=hide hQS;have HQ6:Hid (Q.size <= 16777216):=hide (by omega);clear hSl hl hSz hf hle hK hPl hQl hPz hQz hstep hdl hdec hD hQS;go_wp2_with fail;refine HF.out.mono ?_;rintro e w1 ⟨rfl,rfl⟩;go_wp2_with fail
    all_goals first | (exact absurd h0 ‹_›) | skip
    refine (HD.out _ (HE.out.kept HR.out.below)).mono ?_;rintro e w2 ⟨rfl,hb2⟩;have HR2:=hide (HR.out.kept hb2);clear hb2;go_wp2_with fail;refine (HW.out _ HR2.out).mono ?_;rintro e w3 ⟨rfl,r3⟩;have HR3:=hide r3;clear r3;go_wp2_with fail;go_roundw
    case rel=>exact ⟨Q,o,vs,x ++ D,rfl,HQ6.out,HR3,HST,HZ2⟩
    case measure=>exact HQS.out
   ·have hK0:K = 0:=by omega
    have hmk:isMarkB S.data.toList = true:=by rw [hl];exact markN_zero (by rw [<- hK];exact hK0)
    have hMK:=mark_any _ _ o vs x w wr S m HR.out (by have:=HZ.out;omega) hS (HE.out.kept HR.out.below) (HM.out _ HR.out.below) hmk;have hstep:=HG.out;rw [hl] at hmk hstep hMK;rw [scanL_mark decE _ _ hmk] at hstep;rw [show (c :: r).drop 1 = r from rfl] at hMK;have hl2:=markL_len2 decE r;obtain ⟨M,hM⟩:∃ M,M = markL decE r:=⟨_,rfl⟩
    rw [<- hM] at hstep hMK hl2;have ha:=addT_len (vs.map Prod.fst) x M;have HMK:=hide hMK;have HST:Hid (scanL decE (addT (vs.map Prod.fst) x M).1 (addT (vs.map Prod.fst) x M).2 (str M.2.2).data.toList = scanL decE [] [] s.data.toList):=hide (by rw [str_toList];exact hstep)
    have HZ2:Hid (vs.length + 2 + 2 * (str M.2.2).size <= 2 * s.size /\ (addT (vs.map Prod.fst) x M).2.length + (str M.2.2).size <= s.size):=hide (by
     have:=HZ.out;rw [str_size];omega)
    have HQS:Hid ((str M.2.2).size < S.size):=hide (by rw [str_size];omega);have HQ6:Hid ((str M.2.2).size <= 16777216):=hide (by rw [str_size];omega);clear hSl hl hSz hf hle hK hstep hMK hl2 hM ha hmk;subst hK0;go_wp2_with fail;refine HF.out.mono ?_;rintro e w1 ⟨rfl,rfl⟩;go_wp2_with fail;refine HMK.out.mono ?_;rintro e w2 ⟨rfl,o2,vs2,r2,m2,l2⟩;have HR2:=hide r2;have HST2:Hid (scanL decE (vs2.map Prod.fst) (addT (vs.map Prod.fst) x M).2 (str M.2.2).data.toList = scanL decE [] [] s.data.toList):=hide (by rw [m2];exact HST.out);have HZ3:Hid (vs2.length + 2 * (str M.2.2).size <= 2 * s.size /\ (addT (vs.map Prod.fst) x M).2.length + (str M.2.2).size <= s.size):=hide ⟨by have:=HZ2.out.1;omega,HZ2.out.2⟩;clear r2 m2 l2;go_wp2_with fail;go_roundw
    case rel=>exact ⟨str M.2.2,o2,vs2,_,rfl,HQ6.out,HR2,HST2,HZ3⟩
    case measure=>exact HQS.out
end Go.Proofs.YtmgpmdfmkdhfgaaGreatDoor
