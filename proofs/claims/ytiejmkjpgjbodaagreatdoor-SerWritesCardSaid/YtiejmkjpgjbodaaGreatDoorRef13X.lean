import Derived.Test.YtiejmkjpgjbodaaGreatDoorRef13V
namespace Go.Proofs.YtiejmkjpgjbodaaGreatDoor
open Go.RowKit
set_option linter.unusedVariables false
set_option linter.unusedSimpArgs false
set_option maxRecDepth 100000
set_option maxHeartbeats 16000000 in
theorem tagStart13_any (B b:Nat) (s:ByteArray) (o:Value) (vs:List TokV) (a:Nat) (W0 w:World) (h:Sc B b s o vs W0 w) (hn:vs.length <= 16000000) (hs:s.size <= 16777216) (ha:a + 1 <= s.size) :
  Calls Tryz.prog 89 #[.pointer (some ⟨b,0,none⟩),.int .i64 a,.int .i64 2] w fun e w'=>MarkS B b s (vs.map Prod.fst) (startL decE (s.data.toList.drop (a + 1))) (vs.length + 2) W0 e w':=by
 have hla:=toList_length s;have hTl:=until_le (p:=nameEndB) (l:=s.data.toList) (a:=a + 1) (by omega);rw [hla] at hTl;have HUN:=hide (fun w2=>until13_any s (a + 1) ⟨#[47,62]⟩ nameEndB w2 (by omega) (by omega) (by decide) nameEnd_has13);have hup:=until_up nameEndB s.data.toList (a + 1);obtain ⟨TT,hTT⟩:∃ TT,TT = untilN nameEndB s.data.toList (a + 1):=⟨_,rfl⟩
 rw [<- hTT] at hTl HUN hup;clear hTT;obtain ⟨hT1,hT2⟩:=hTl;rw [show ((a + 1:Nat):Int) = (a:Int) + 1 by omega] at HUN;obtain ⟨PN,hPN⟩:∃ PN,s.extract (a + 1) TT = PN:=⟨_,rfl⟩
 have hPl:PN.data.toList = (s.data.toList.drop (a + 1)).take (TT - (a + 1)):=by rw [<- hPN,extract_list,List.drop_take]
 have zPN:PN.size <= 16777216:=by rw [<- toList_length,hPl,List.length_take,List.length_drop];omega
 obtain ⟨nm,hnm⟩:∃ nm,nm = lowL (upL nameEndB (s.data.toList.drop (a + 1))).1:=⟨_,rfl⟩
 obtain ⟨NM,hNM⟩:∃ NM,NM = str nm:=⟨_,rfl⟩
 have HSM:=hide (fun w2=>small_any PN w2 (by omega));rw [hPl,show (s.data.toList.drop (a + 1)).take (TT - (a + 1)) = (upL nameEndB (s.data.toList.drop (a + 1))).1 by rw [hup],<- hnm,<- hNM] at HSM;have HAT0:=fun w2=>attrs13_any s TT w2 hT2 hs
 have q0:(a:Int) + 1 <= TT:=by omega
 have q1:(TT:Int) <= s.size:=by omega
 have q2:wrap64 ((a:Int) + 2) = (a:Int) + 2:=by unfold wrap64;omega
 have q3:wrap64 ((a:Int) + 2 - 1) = (a:Int) + 1:=by unfold wrap64;omega
 have q4:(a:Int) + 2 - 1 = (a:Int) + 1:=by omega
 have q5:((a:Int) + 1).toNat = a + 1:=by omega
 have d0:=h.c0;obtain ⟨A0,c0,rfl⟩:=h.toks.slice_len;have H:=hide h;have HN:=hide hn;have HNM:=hide hNM;cases hat:attrsLL decE [] (s.data.toList.drop TT) with
 | none =>
  have hm:startL decE (s.data.toList.drop (a + 1)) = (none,[],[]):=by
   unfold startL;rw [tagL_none (by rw [hup];exact hat)]
  rw [hm]
  have HAT:=hide (fun w2=>(HAT0 w2).mono (fun e w' hp=>(by
   unfold AttrsP at hp;rw [hat] at hp;exact hp:e = .returned (.tuple #[.slice none 0 0,.int .i64 (-1)]) /\ Below w2.heap.size w2 w')))
  have HDR:Hid (s.data.toList.drop s.size = []):=hide (List.drop_eq_nil_of_le (by omega));clear hat hm HAT0 hup hPl zPN hnm hNM h hn hla;go_enter Tryz.func89,Tryz.ntmps89;go_wp2_with fail;refine (HUN.out _).mono ?_;rintro e w1 ⟨rfl,hw1⟩;have H1:=hide (H.out.kept (below_of13 hw1));have e1:=H1.out.c0;clear hw1;go_wp2_with fail;refine (HSM.out _).mono ?_;rintro e w2 ⟨rfl,hb2⟩;have H2:=hide (H1.out.kept hb2);have e2:=H2.out.c0;clear hb2;go_wp2_with fail;refine (HAT.out _).mono ?_;rintro e w3 ⟨rfl,hb3⟩;have H3:=hide (H2.out.kept hb3);have e3:=H3.out.c0;clear hb3;go_wp2_with fail;go_ret;exact ⟨s.size,rfl,Nat.le_refl _,HDR.out,_,vs,H3.out,by rw [show (none:Option TokL).toList = [] from rfl,List.append_nil,flush_nil],Nat.le_add_right _ _⟩
 | some p =>
  obtain ⟨A,bb⟩:=p;have htg:tagL decE (s.data.toList.drop (a + 1)) = some (nm,A,bb):=by rw [tagL_some (A:=A) (b:=bb) (by rw [hup];exact hat),<- hnm]
  have hst:startL decE (s.data.toList.drop (a + 1)) = if rawL.contains nm = true then (some (startT nm A),bb.take (rawSizeL nm bb),bb.drop (rawSizeL nm bb)) else (some (startT nm A),[],bb):=by
   unfold startL;rw [htg]
  have HRW:=hide (fun w2=>raw13_any NM w2);rw [show NM.data.toList = nm by rw [hNM,str_toList]] at HRW;have hNl:NM.data.toList = nm:=by rw [hNM,str_toList]
  have zNM:NM.size <= 16777216:=by
   rw [hNM,str_size,hnm];unfold lowL;rw [List.length_map]
   have:=upL_len nameEndB (s.data.toList.drop (a + 1));rw [List.length_drop,hla] at this;omega
  cases hr:rawL.contains nm with
  | false =>
   rw [hr,if_neg (by decide)] at hst;rw [hst];rw [hr] at HRW
   have HAT:=hide (fun w2=>(HAT0 w2).mono (fun e w' hp=>(by
    unfold AttrsP at hp;rw [hat] at hp;exact hp:∃ (v:Value) (n:Nat),e = .returned (.tuple #[v,.int .i64 n]) /\ n <= s.data.toList.length /\ s.data.toList.drop n = bb /\ A.length <= 30 /\ ABuf w2.heap.size v A w2 w')))
   have HLA:=hide hla;clear hat htg hst hr hNl zNM HAT0 hup hPl zPN hnm hNM h hn hla;go_enter Tryz.func89,Tryz.ntmps89;go_wp2_with fail;refine (HUN.out _).mono ?_;rintro e w1 ⟨rfl,hw1⟩;have H1:=hide (H.out.kept (below_of13 hw1));have e1:=H1.out.c0;clear hw1;go_wp2_with fail;refine (HSM.out _).mono ?_;rintro e w2 ⟨rfl,hb2⟩;have H2:=hide (H1.out.kept hb2);have e2:=H2.out.c0;clear hb2;go_wp2_with fail;refine (HAT.out _).mono ?_;rintro e w3 ⟨v,n,rfl,hn1,hn2,hn3,hab⟩;have H3:=hide (H2.out.kept hab.below);have e3:=H3.out.c0;have g3:=H3.out.c1;obtain ⟨A4,c4,rfl⟩:=hab.slice_len;have HN1:=hide (show n <= s.size by rw [<- HLA.out];exact hn1);have HN2:=hide hn2;have tneg:decide ((n:Int) < 0) = false:=decide_eq_false (by omega);have HAB:Hid (w3.ownsRow B 43 2 (.slice A4 A.length c4) A.length (atVals A)):=hide (ownsRow_down hab.1 H2.out.size);clear hn1 hn2 hn3 hab;go_wp2_with (at_builtin;go_must (refine wpList_toks rfl _ _ rfl B _ vs rfl (startT nm A) (.slice A4 A.length c4) (H3.out.toks.alloc _) (HAB.out.alloc _) (by rw [World.size_alloc];exact Nat.le_succ_of_le H3.out.size) ⟨w3.heap.size,0,none⟩ rfl (tok_row _ _ _ _ _).1 ((tok_row _ _ _ _ _).2.1.trans (by show some (Value.string NM) = some (Value.string (str nm));rw [HNM.out])) (tok_row _ _ _ _ _).2.2.1 (tok_row _ _ _ _ _).2.2.2 (by have:=HN.out;omega) ?_;intro v2 w4 ht2 hg2;obtain ⟨A2,n2,c2,rfl⟩:∃ A n c,v2 = .slice A n c:=⟨_,_,_,ht2.slice_len.choose_spec.choose_spec⟩;obtain ⟨x1,x2,x3⟩:=storedS H3.out ht2 hg2;have HS:=hide x3;clear ht2 hg2 x3))
   refine (HRW.out _).mono ?_;rintro e w5 ⟨rfl,hw5⟩;subst hw5;go_wp2_with fail;go_ret;exact ⟨n,rfl,HN1.out,HN2.out,_,_,HS.out,by rw [flush_nil,List.map_append];rfl,by rw [List.length_append];exact Nat.le_succ _⟩
  | true =>
   rw [hr,if_pos rfl] at hst;rw [hst];rw [hr] at HRW
   have HAT:=hide (fun w2=>(HAT0 w2).mono (fun e w' hp=>(by
    unfold AttrsP at hp;rw [hat] at hp;exact hp:∃ (v:Value) (n:Nat),e = .returned (.tuple #[v,.int .i64 n]) /\ n <= s.data.toList.length /\ s.data.toList.drop n = bb /\ A.length <= 30 /\ ABuf w2.heap.size v A w2 w')))
   have HLA:=hide hla;clear hat htg hst hr HAT0 hup hPl zPN hnm hNM h hn hla;go_enter Tryz.func89,Tryz.ntmps89;go_wp2_with fail;refine (HUN.out _).mono ?_;rintro e w1 ⟨rfl,hw1⟩;have H1:=hide (H.out.kept (below_of13 hw1));have e1:=H1.out.c0;clear hw1;go_wp2_with fail;refine (HSM.out _).mono ?_;rintro e w2 ⟨rfl,hb2⟩;have H2:=hide (H1.out.kept hb2);have e2:=H2.out.c0;clear hb2;go_wp2_with fail;refine (HAT.out _).mono ?_;rintro e w3 ⟨v,n,rfl,hn1,hn2,hn3,hab⟩;have H3:=hide (H2.out.kept hab.below);have e3:=H3.out.c0;have g3:=H3.out.c1;obtain ⟨A4,c4,rfl⟩:=hab.slice_len;have HN1:=hide (show n <= s.size by rw [<- HLA.out];exact hn1);have HN2:=hide hn2;have tneg:decide ((n:Int) < 0) = false:=decide_eq_false (by omega);have HAB:Hid (w3.ownsRow B 43 2 (.slice A4 A.length c4) A.length (atVals A)):=hide (ownsRow_down hab.1 H2.out.size);clear hn1 hn2 hn3 hab;go_wp2_with (at_builtin;go_must (refine wpList_toks rfl _ _ rfl B _ vs rfl (startT nm A) (.slice A4 A.length c4) (H3.out.toks.alloc _) (HAB.out.alloc _) (by rw [World.size_alloc];exact Nat.le_succ_of_le H3.out.size) ⟨w3.heap.size,0,none⟩ rfl (tok_row _ _ _ _ _).1 ((tok_row _ _ _ _ _).2.1.trans (by show some (Value.string NM) = some (Value.string (str nm));rw [HNM.out])) (tok_row _ _ _ _ _).2.2.1 (tok_row _ _ _ _ _).2.2.2 (by have:=HN.out;omega) ?_;intro v2 w4 ht2 hg2;obtain ⟨A2,n2,c2,rfl⟩:∃ A n c,v2 = .slice A n c:=⟨_,_,_,ht2.slice_len.choose_spec.choose_spec⟩;obtain ⟨x1,x2,x3⟩:=storedS H3.out ht2 hg2;have HS:=hide x3;clear ht2 hg2 x3))
   refine (HRW.out _).mono ?_;rintro e w5 ⟨rfl,hw5⟩;subst hw5;go_wp2_with fail
   have HRR:=hide (raw13w_any B b s _ _ NM n W0 _ HS.out (by rw [List.length_append];have:=HN.out;show vs.length + 1 <= _;omega) (fun p hp hk=>by
    rw [List.getLast?_concat] at hp;injection hp with hp;subst hp;exact absurd hk (by show ¬ ((2:Nat) = 1);decide)) hs HN1.out zNM)
   rw [hNl,HN2.out] at HRR;refine HRR.out.mono ?_;rintro e w6 ⟨k,rfl,hk,o2,vs2,hs2,hm2,hl2⟩;have HS2:=hide hs2;have HM2:=hide hm2;have HL2:=hide hl2;have HK:=hide hk;clear hs2 hm2 hl2 hk HRR;go_wp2_with fail;go_ret;have hbl:bb.length = s.size - n:=by rw [<- HN2.out,List.length_drop,HLA.out]
   have hrl:=rawSizeL_le nm bb;refine ⟨k,rfl,by have:=HK.out;have:=HN1.out;omega,?_,o2,vs2,HS2.out,?_,?_⟩
   ·rw [HK.out,<- List.drop_drop,HN2.out]
   ·rw [HM2.out,List.map_append];have he:EndsL (vs.map Prod.fst ++ [startT nm A]):=ends_snoc (by show (2:Nat) ≠ 1;decide);have:=addC_flush he [] (bb.take (rawSizeL nm bb));rw [flush_nil,List.nil_append] at this;exact this
   ·have:=HL2.out;rw [List.length_append] at this;exact this
end Go.Proofs.YtiejmkjpgjbodaaGreatDoor
