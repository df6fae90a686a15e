import Derived.Test.YtiejmkjpgjbodaaGreatDoorRef12B
namespace Go.Proofs.YtiejmkjpgjbodaaGreatDoor
open Go.RowKit
set_option linter.unusedVariables false
set_option linter.unusedSimpArgs false
set_option maxRecDepth 100000
theorem decE_onRL (l:List UInt8) (c:UInt8) (t:List UInt8) (h:l = c :: t):(onRL l = noneV /\ decE l = c :: decE t) \/ ∃ (x:Int) (n:Nat),0 < n /\ n <= t.length /\ onRL l = .tuple #[.string (str (runeL x)),.int .i64 (n + 1:Nat)] /\ decE l = runeL x ++ decE (t.drop n):=by
 subst h
 by_cases hc:c = 38
 ·subst hc;show (onRV (refN t) = _ /\ _) \/ _
  rw [decE_amp]
  by_cases hn:0 < (refN t).2
  ·refine .inr ⟨(refN t).1,(refN t).2,hn,(refN_ok t).2,?_,by rw [if_pos hn]⟩;show onRV (refN t) = _
   unfold onRV;rw [if_pos hn]
  ·refine .inl ⟨?_,by rw [if_neg hn]⟩;unfold onRV;rw [if_neg hn];rfl
 ·refine .inl ⟨?_,decE_cons hc t⟩;unfold onRL;split
  ·rename_i e;injection e with e _;exact absurd e hc
  ·rfl
set_option maxHeartbeats 4000000 in
theorem refDecode12_any (s:ByteArray) (w:World) (hs:s.size <= 16777216) :
  Calls Tryz.prog 92 #[.string s] w fun e w'=>e = .returned (.string (str (decE s.data.toList))) /\ Below w.heap.size w w':=by
 have hb0:Buf w.heap.size (.slice none 0 0) [] w w:=Buf.nil (Below.refl _ _) (Nat.le_refl _);have HB0:=hide hb0;clear hb0;go_enter Tryz.func92,Tryz.ntmps92;go_wp2_with fail;go_loopw [3,4] (fun v i wr=>∃ (k:Nat) (acc:List UInt8),k <= s.size /\ i = .int .i64 k /\ Hid (Buf w.heap.size v acc w wr) /\ Hid (acc.length <= 4 * k) /\ Hid (acc ++ decE (s.data.toList.drop k) = decE s.data.toList)) (fun _ i _=>s.size - (intOf i).toNat)
 case atStart=>exact ⟨0,[],Nat.zero_le _,rfl,HB0,hide (Nat.le_refl _),hide rfl⟩
 case round =>
  obtain ⟨k,acc,hk,rfl,HB,HL,HG⟩:=hrel
  by_cases hlt:k < s.size
  ·have HO:=hide (fun (w:World)=>refOnR_any (s.extract k s.size) w (by rw [ByteArray.size_extract];omega));rw [extract_end] at HO;have hG:=HG.out;have hL:=HL.out;rcases decE_onRL (s.data.toList.drop k) s[k] (s.data.toList.drop (k + 1)) (drop_cons s k hlt) with ⟨o1,o2⟩ | ⟨x,n,n0,n1,o1,o2⟩
   ·rw [o1,show noneV = .tuple #[.string ⟨#[]⟩,.int .i64 0] from rfl] at HO;rw [o2] at hG;have HGN:Hid ((acc ++ [s[k]]) ++ decE (s.data.toList.drop (k + 1)) = decE s.data.toList):=hide (by rw [<- hG];simp);have k1:(k:Int) <= s.size:=by omega
    have HLN:Hid (acc.length + 1 <= 140737488355328):=hide (by omega);clear o1 o2 hG hL
    go_wp2_with (first
     |(go_at_call 135;refine (HO.out _).mono ?_;rintro e w3 ⟨rfl,hb3⟩;have HB3:=hide (HB.out.kept hb3);clear hb3)
     |(refine wpList_buf_byte rfl _ _ rfl w.heap.size u3 acc rfl w _ s[k] HB3.out rfl (by first | exact HLN.out | (have:=HLN.out;omega)) ?_;intro v2 w2 hb2;have HB2:=hide hb2;clear hb2))
    go_roundw
    case rel=>exact ⟨k + 1,_,by omega,by go_num,HB2,hide (by have:=HL.out;simp;omega),HGN⟩
    case measure=>simp [intOf];omega
   ·rw [o1] at HO;rw [o2,List.drop_drop] at hG;rw [List.length_drop,toList_length] at n1;have hrl:=(runeL_length x).2.1;obtain ⟨V,hV⟩:∃ V,V = str (runeL x):=⟨_,rfl⟩
    rw [<- hV] at HO;have hVl:V.data.toList = runeL x:=by rw [hV,str_toList]
    have HGN:Hid ((acc ++ V.data.toList) ++ decE (s.data.toList.drop (k + (n + 1))) = decE s.data.toList):=hide (by rw [<- hG,hVl,show k + (n + 1) = k + 1 + n by omega];simp);have HLV:Hid ((acc ++ V.data.toList).length <= 4 * (k + (n + 1))):=hide (by rw [List.length_append,hVl];omega);have HLN:Hid (acc.length + V.size <= 140737488355328):=hide (by rw [<- toList_length,hVl];omega);have k1:(k:Int) <= s.size:=by omega
    have nn:(((n:Int) + 1) == 0) = false:=beq_eq_false_iff_ne.2 (by omega);have q1:IntKind.i64.wrap ((k:Int) + ((n:Int) + 1)) = ((k + (n + 1):Nat):Int):=by rw [IntWalk.i64_in _ (by omega)];omega
    clear o1 o2 hG hL hrl hV hVl
    go_wp2_with (first
     |(go_at_call 135;refine (HO.out _).mono ?_;rintro e w3 ⟨rfl,hb3⟩;have HB3:=hide (HB.out.kept hb3);clear hb3)
     |(refine wpList_buf_text rfl _ _ rfl w.heap.size u3 acc rfl w HB3.out V rfl HLN.out ?_;intro v2 w2 hb2;have HB2:=hide hb2;clear hb2))
    go_roundw
    case rel=>exact ⟨k + (n + 1),_,by omega,by go_num,HB2,HLV,HGN⟩
    case measure=>simp [intOf];omega
  ·have hcv:=HB.out.convert;have hG:=HG.out;rw [drop_nil s k (by omega),decE_nil,List.append_nil] at hG;have HR:=hide hG;clear hG;go_wp2_with fail;go_ret;exact ⟨by rw [HR.out] <;> rfl,HB.out.below⟩
end Go.Proofs.YtiejmkjpgjbodaaGreatDoor
