import Derived.Test.YtiejmkjpgjbodaaGreatDoorRef13U
import Derived.Test.YtiejmkjpgjbodaaGreatDoorRef13C
import Derived.Test.YtiejmkjpgjbodaaGreatDoorBaseS
namespace Go.Proofs.YtiejmkjpgjbodaaGreatDoor
open Go.RowKit
set_option linter.unusedVariables false
set_option linter.unusedSimpArgs false
set_option maxRecDepth 100000
def MarkS (B b:Nat) (s:ByteArray) (P:List TokL) (m:MarkR) (N:Nat) (W0:World) (e:Ending) (w':World):Prop :=
  ∃ k:Nat,e = .returned (.int .i64 (k:Nat)) /\ k <= s.size /\ s.data.toList.drop k = m.2.2 /\ ScP B b s (flushT (P ++ m.1.toList) m.2.1) N W0 w'
theorem flush_nil (L:List TokL):flushT L [] = L:=if_pos rfl
set_option maxHeartbeats 8000000 in
theorem tagEnd13_any (B b:Nat) (s:ByteArray) (o:Value) (vs:List TokV) (a:Nat) (W0 w:World) (h:Sc B b s o vs W0 w) (hn:vs.length <= 16777216) (hs:s.size <= 16777216) (ha:a + 2 <= s.size) :
  Calls Tryz.prog 89 #[.pointer (some ⟨b,0,none⟩),.int .i64 a,.int .i64 3] w fun e w'=>MarkS B b s (vs.map Prod.fst) (endL decE (s.data.toList.drop (a + 2))) (vs.length + 1) W0 e w':=by
 have hla:=toList_length s;have hTl:=until_le (p:=nameEndB) (l:=s.data.toList) (a:=a + 2) (by omega);rw [hla] at hTl;have HUN:=hide (fun w2=>until13_any s (a + 2) ⟨#[47,62]⟩ nameEndB w2 (by omega) (by omega) (by decide) nameEnd_has13);have hup:=until_up nameEndB s.data.toList (a + 2);obtain ⟨TT,hTT⟩:∃ TT,TT = untilN nameEndB s.data.toList (a + 2):=⟨_,rfl⟩
 rw [<- hTT] at hTl HUN hup;clear hTT;obtain ⟨hT1,hT2⟩:=hTl;rw [show ((a + 2:Nat):Int) = (a:Int) + 2 by omega] at HUN;obtain ⟨PN,hPN⟩:∃ PN,s.extract (a + 2) TT = PN:=⟨_,rfl⟩
 have hPl:PN.data.toList = (s.data.toList.drop (a + 2)).take (TT - (a + 2)):=by rw [<- hPN,extract_list,List.drop_take]
 have zPN:PN.size <= 16777216:=by rw [<- toList_length,hPl,List.length_take,List.length_drop];omega
 obtain ⟨nm,hnm⟩:∃ nm,nm = lowL (upL nameEndB (s.data.toList.drop (a + 2))).1:=⟨_,rfl⟩
 obtain ⟨NM,hNM⟩:∃ NM,NM = str nm:=⟨_,rfl⟩
 have HSM:=hide (fun w2=>small_any PN w2 (by omega));rw [hPl,show (s.data.toList.drop (a + 2)).take (TT - (a + 2)) = (upL nameEndB (s.data.toList.drop (a + 2))).1 by rw [hup],<- hnm,<- hNM] at HSM;have HAT0:=fun w2=>attrs13_any s TT w2 hT2 hs
 have q0:(a:Int) + 2 <= TT:=by omega
 have q1:(TT:Int) <= s.size:=by omega
 have q2:wrap64 ((a:Int) + 3) = (a:Int) + 3:=by unfold wrap64;omega
 have q3:wrap64 ((a:Int) + 3 - 1) = (a:Int) + 2:=by unfold wrap64;omega
 have q4:(a:Int) + 3 - 1 = (a:Int) + 2:=by omega
 have q5:((a:Int) + 2).toNat = a + 2:=by omega
 have d0:=h.c0;obtain ⟨A0,c0,rfl⟩:=h.toks.slice_len;have H:=hide h;have HN:=hide hn;have HNM:=hide hNM;cases hat:attrsLL decE [] (s.data.toList.drop TT) with
 | none =>
  have hm:endL decE (s.data.toList.drop (a + 2)) = (none,[],[]):=by
   unfold endL;rw [tagL_none (by rw [hup];exact hat)]
  rw [hm]
  have HAT:=hide (fun w2=>(HAT0 w2).mono (fun e w' hp=>(by
   unfold AttrsP at hp;rw [hat] at hp;exact hp:e = .returned (.tuple #[.slice none 0 0,.int .i64 (-1)]) /\ Below w2.heap.size w2 w')))
  have HDR:Hid (s.data.toList.drop s.size = []):=hide (List.drop_eq_nil_of_le (by omega));clear hat hm HAT0 hup hPl zPN hnm hNM h hn hla;go_enter Tryz.func89,Tryz.ntmps89;go_wp2_with fail;refine (HUN.out _).mono ?_;rintro e w1 ⟨rfl,hw1⟩;have H1:=hide (H.out.kept (below_of13 hw1));have e1:=H1.out.c0;clear hw1;go_wp2_with fail;refine (HSM.out _).mono ?_;rintro e w2 ⟨rfl,hb2⟩;have H2:=hide (H1.out.kept hb2);have e2:=H2.out.c0;clear hb2;go_wp2_with fail;refine (HAT.out _).mono ?_;rintro e w3 ⟨rfl,hb3⟩;have H3:=hide (H2.out.kept hb3);have e3:=H3.out.c0;clear hb3;go_wp2_with fail;go_ret;exact ⟨s.size,rfl,Nat.le_refl _,HDR.out,_,vs,H3.out,by rw [show (none:Option TokL).toList = [] from rfl,List.append_nil,flush_nil],Nat.le_succ _⟩
 | some p =>
  obtain ⟨A,bb⟩:=p
  have hm:endL decE (s.data.toList.drop (a + 2)) = (some (endT nm),[],bb):=by
   unfold endL;rw [tagL_some (A:=A) (b:=bb) (by rw [hup];exact hat),<- hnm]
  rw [hm]
  have HAT:=hide (fun w2=>(HAT0 w2).mono (fun e w' hp=>(by
   unfold AttrsP at hp;rw [hat] at hp;exact hp:∃ (v:Value) (n:Nat),e = .returned (.tuple #[v,.int .i64 n]) /\ n <= s.data.toList.length /\ s.data.toList.drop n = bb /\ A.length <= 30 /\ ABuf w2.heap.size v A w2 w')))
  have HLA:=hide hla;clear hat hm HAT0 hup hPl zPN hnm hNM h hn hla;go_enter Tryz.func89,Tryz.ntmps89;go_wp2_with fail;refine (HUN.out _).mono ?_;rintro e w1 ⟨rfl,hw1⟩;have H1:=hide (H.out.kept (below_of13 hw1));have e1:=H1.out.c0;clear hw1;go_wp2_with fail;refine (HSM.out _).mono ?_;rintro e w2 ⟨rfl,hb2⟩;have H2:=hide (H1.out.kept hb2);have e2:=H2.out.c0;clear hb2;go_wp2_with fail;refine (HAT.out _).mono ?_;rintro e w3 ⟨v,n,rfl,hn1,hn2,hn3,hab⟩;have H3:=hide (H2.out.kept hab.below);have e3:=H3.out.c0;have g3:=H3.out.c1;obtain ⟨A4,c4,rfl⟩:=hab.slice_len;have HN1:=hide (show n <= s.size by rw [<- HLA.out];exact hn1);have HN2:=hide hn2;have tneg:decide ((n:Int) < 0) = false:=decide_eq_false (by omega);clear hn1 hn2 hn3 hab;go_wp2_with (at_builtin;go_must (refine wpList_toks rfl _ _ rfl B _ vs rfl (endT nm) (.slice none 0 0) (H3.out.toks.alloc _) (World.ownsRow_nil _ B _ 2) (by rw [World.size_alloc];exact Nat.le_succ_of_le H3.out.size) ⟨w3.heap.size,0,none⟩ rfl (tok_row _ _ _ _ _).1 ((tok_row _ _ _ _ _).2.1.trans (by show some (Value.string NM) = some (Value.string (str nm));rw [HNM.out])) (tok_row _ _ _ _ _).2.2.1 (tok_row _ _ _ _ _).2.2.2 (by have:=HN.out;omega) ?_;intro v2 w4 ht2 hg2;obtain ⟨A2,n2,c2,rfl⟩:∃ A n c,v2 = .slice A n c:=⟨_,_,_,ht2.slice_len.choose_spec.choose_spec⟩;obtain ⟨x1,x2,x3⟩:=storedS H3.out ht2 hg2;have HS:=hide x3;clear ht2 hg2 x3))
  go_ret;exact ⟨n,rfl,HN1.out,HN2.out,_,_,HS.out,by rw [flush_nil,List.map_append];rfl,by rw [List.length_append];exact Nat.le_refl _⟩
end Go.Proofs.YtiejmkjpgjbodaaGreatDoor
