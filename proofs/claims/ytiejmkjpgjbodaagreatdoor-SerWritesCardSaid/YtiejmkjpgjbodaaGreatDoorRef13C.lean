import Derived.Test.YtiejmkjpgjbodaaGreatDoorRef13B
import Derived.Test.YtiejmkjpgjbodaaGreatDoorBaseR
import Derived.Test.YtiejmkjpgjbodaaGreatDoorBaseP
import Derived.Test.YtiejmkjpgjbodaaGreatDoorRef13S
namespace Go.Proofs.YtiejmkjpgjbodaaGreatDoor
open Go.RowKit
set_option linter.unusedVariables false
set_option linter.unusedSimpArgs false
set_option maxRecDepth 100000
theorem valR_ge {l:List UInt8} {a:Nat} (h:a <= l.length):a <= (valR l a).2:=by
 by_cases hq:∀ c r,l.drop a = c :: r -> c ≠ 34 /\ c ≠ 39
 ·rw [valR_plain hq];exact (until_le h).1
 ·cases hd:l.drop a with
  | nil=>exact absurd (fun c r e=>by rw [hd] at e;cases e) hq
  | cons c r =>
   have hc:c = 34 \/ c = 39:=by
    by_cases h1:c = 34
    ·exact .inl h1
    ·by_cases h2:c = 39
     ·exact .inr h2
     ·exact absurd (fun c' r' e=>by rw [hd] at e;injection e with e1 _;subst e1;exact ⟨h1,h2⟩) hq
   rw [valR_quote hd hc];cases findAt [c] r with
   | none=>exact h
   | some k=>simp only;omega
def twB (A:List AtL) (n:List UInt8):Bool:=decide (30 <= A.length) || A.any fun x=>x.1 == n
theorem counts_tw (A:List AtL) (n:List UInt8):countsB A n = !(twB A n):=by
 unfold countsB twB;rw [Bool.not_or]
 congr 1
 by_cases h:A.length < 30
 ·rw [decide_eq_true h,decide_eq_false (by omega)];rfl
 ·rw [decide_eq_false h,decide_eq_true (by omega)];rfl
theorem name_take {l r:List UInt8} {k:Nat} {c:UInt8} (hd:l.drop k = c :: r):c :: (upL attrEndB r).1 = (l.drop k).take (untilN attrEndB l (k + 1) - k):=by
 have hr:=drop_succ13 hd;have hup:=until_up attrEndB l (k + 1);have hge:k + 1 <= untilN attrEndB l (k + 1):=by unfold untilN;omega
 rw [hr] at hup;rw [hup,hd];rw [show untilN attrEndB l (k + 1) - k = (untilN attrEndB l (k + 1) - (k + 1)) + 1 by omega,List.take_succ_cons]
theorem ref_eq {l r b:List UInt8} {k:Nat} {c:UInt8} {A:List AtL} (hk:k <= l.length) (hd:l.drop k = c :: r) (hw:whs c = false) (h62:c ≠ 62) (hq:l.drop (whiteN l (untilN attrEndB l (k + 1))) = 61 :: b) :
  attrsLL decE A (l.drop k) = attrsLL decE (if countsB A (lowL ((l.drop k).take (untilN attrEndB l (k + 1) - k))) = true then A ++ [(lowL ((l.drop k).take (untilN attrEndB l (k + 1) - k)),(valR l (whiteN l (whiteN l (untilN attrEndB l (k + 1)) + 1))).1)] else A)
   (l.drop (valR l (whiteN l (whiteN l (untilN attrEndB l (k + 1)) + 1))).2):=by
 have hdw:(l.drop k).dropWhile whs = c :: r:=by rw [hd,List.dropWhile_cons_of_neg (by rw [hw];decide)]
 rw [attrsLL_go hdw h62,<- name_take hd];have hup:=until_up attrEndB l (k + 1);rw [drop_succ13 hd] at hup;have hu2:(upL attrEndB r).2 = l.drop (untilN attrEndB l (k + 1)):=by rw [hup]
 have hb:(upL attrEndB r).2.dropWhile whB = 61 :: b:=by rw [hu2,<- white_drop,hq]
 rw [attrL_val hb];have hb2:b.dropWhile whB = l.drop (whiteN l (whiteN l (untilN attrEndB l (k + 1)) + 1)):=by rw [white_drop,drop_succ13 hq]
 rw [hb2];obtain ⟨W,hW⟩:∃ W,W = whiteN l (whiteN l (untilN attrEndB l (k + 1)) + 1):=⟨_,rfl⟩
 rw [<- hW]
 by_cases hWl:W <= l.length
 ·obtain ⟨v1,v2⟩:=valR_L l W hWl
  by_cases hn:(valueL (l.drop W)).2 = []
  ·simp only;rw [hn,<- v1,hn,attrsLL_none,attrsLL_none]
  ·simp only;rw [v2 hn,v1]
 ·have:l.drop W = []:=List.drop_eq_nil_of_le (by omega);rw [this]
  have h2:(valR l W).2 = W:=by
   rw [valR_plain (fun c r e=>by rw [this] at e;cases e)];exact until_past (by omega)
  rw [h2,this];have h3:(valueL ([]:List UInt8)).2 = []:=rfl;simp only;rw [h3,attrsLL_none,attrsLL_none]
theorem ref_no {l r:List UInt8} {k:Nat} {c:UInt8} {A:List AtL} (hd:l.drop k = c :: r) (hw:whs c = false) (h62:c ≠ 62) (hq:∀ b,l.drop (whiteN l (untilN attrEndB l (k + 1))) ≠ 61 :: b) :
  attrsLL decE A (l.drop k) = attrsLL decE (if countsB A (lowL ((l.drop k).take (untilN attrEndB l (k + 1) - k))) = true then A ++ [(lowL ((l.drop k).take (untilN attrEndB l (k + 1) - k)),[])] else A) (l.drop (untilN attrEndB l (k + 1))):=by
 have hdw:(l.drop k).dropWhile whs = c :: r:=by rw [hd,List.dropWhile_cons_of_neg (by rw [hw];decide)]
 rw [attrsLL_go hdw h62,<- name_take hd];have hup:=until_up attrEndB l (k + 1);rw [drop_succ13 hd] at hup;have hu2:(upL attrEndB r).2 = l.drop (untilN attrEndB l (k + 1)):=by rw [hup]
 rw [attrL_none (fun b=>by rw [hu2,<- white_drop];exact hq b),hu2]
theorem attrEnd_has13 (c:UInt8):attrEndB c = (whB c || (⟨#[47,62,61]⟩:ByteArray).data.toList.contains c):=by
 unfold attrEndB nameEndB;simp only [List.contains_cons,List.contains_nil,Bool.or_false,Bool.or_assoc]
theorem nameEnd_has13 (c:UInt8):nameEndB c = (whB c || (⟨#[47,62]⟩:ByteArray).data.toList.contains c):=by
 unfold nameEndB;simp only [List.contains_cons,List.contains_nil,Bool.or_false]
theorem white_le {l:List UInt8} {a:Nat} (h:a <= l.length):a <= whiteN l a /\ whiteN l a <= l.length:=until_le h
theorem any_take {A:List AtL} {n:List UInt8} {i:Nat} {f:AtL} (h:A[i]? = some f):((A.take (i + 1)).any fun x=>x.1 == n) = (((A.take i).any fun x=>x.1 == n) || (f.1 == n)):=by
 rw [List.take_add_one,h,List.any_append];simp
def AttrsP (l:List UInt8) (a:Nat) (w:World) (e:Ending) (w':World):Prop :=
  match attrsLL decE [] (l.drop a) with
  | none=>e = .returned (.tuple #[.slice none 0 0,.int .i64 (-1)]) /\ Below w.heap.size w w'
  | some (A,b)=>∃ (v:Value) (n:Nat),e = .returned (.tuple #[v,.int .i64 n]) /\ n <= l.length /\ l.drop n = b /\ A.length <= 30 /\ ABuf w.heap.size v A w w'
theorem AttrsP.none' {l:List UInt8} {a:Nat} {w w':World} (h:attrsLL decE [] (l.drop a) = none) (hb:Below w.heap.size w w'):AttrsP l a w (.returned (.tuple #[.slice none 0 0,.int .i64 (-1)])) w':=by
 unfold AttrsP;rw [h];exact ⟨rfl,hb⟩
theorem AttrsP.some' {l b:List UInt8} {a n:Nat} {A:List AtL} {v:Value} {w w':World} (h:attrsLL decE [] (l.drop a) = some (A,b)) (hn:n <= l.length) (hd:l.drop n = b) (hA:A.length <= 30) (hb:ABuf w.heap.size v A w w') :
  AttrsP l a w (.returned (.tuple #[v,.int .i64 n])) w':=by
 unfold AttrsP;rw [h];exact ⟨v,n,rfl,hn,hd,hA,hb⟩
set_option maxHeartbeats 16000000 in
theorem attrs13_any (s:ByteArray) (a:Nat) (w:World) (ha:a <= s.size) (hs:s.size <= 16777216) :
  Calls Tryz.prog 132 #[.string s,.int .i64 a] w fun e w'=>AttrsP s.data.toList a w e w':=by
 have hla:=toList_length s;go_enter Tryz.func132,Tryz.ntmps132;go_wp2_with fail;go_loopw [1,6] (fun av ov wr=>∃ (k:Nat) (A:List AtL),k <= s.size /\ av = .int .i64 k /\ A.length <= 30 /\ Hid (ABuf w.heap.size ov A w wr) /\ Hid (attrsLL decE A (s.data.toList.drop k) = attrsLL decE [] (s.data.toList.drop a))) (fun av _ _=>s.size - (intOf av).toNat)
 case atStart=>exact ⟨a,[],ha,rfl,by simp,hide (ABuf.nil (Below.refl _ _) (Nat.le_refl _)),hide rfl⟩
 case round =>
  obtain ⟨k,A,hk,rfl,hA30,HAB,HG⟩:=hrel;obtain ⟨AO,co,rfl⟩:=HAB.out.slice_len
  by_cases hlt:k < s.size
  ·have hd:=drop_cons s k hlt;have HSP:=hide (fun w2=>space13_any s[k] w2);obtain ⟨c,hc⟩:∃ c,s[k] = c:=⟨_,rfl⟩
   have hcn:(s[k]'hlt).toNat = c.toNat:=by rw [hc]
   rw [hc] at hd HSP;cases hw:whB c with
   | true =>
    have HG2:Hid (attrsLL decE A (s.data.toList.drop (k + 1)) = attrsLL decE [] (s.data.toList.drop a)):=hide (by
     rw [<- HG.out,hd,attrsLL_skip (by unfold whs;rw [hw];rfl)])
    rw [hw] at HSP;clear hw hd hc HG;go_wp2_with (go_at_call 153;refine (HSP.out _).mono ?_;rintro e w2 ⟨rfl,rfl⟩);go_roundw
    case rel=>exact ⟨k + 1,A,by omega,by go_num,hA30,HAB,HG2⟩
    case measure=>simp [intOf];omega
   | false =>
    rw [hw] at HSP
    by_cases h47:c = 47
    ·have t47:((c.toNat:Int) == 47) = true:=tT 47 h47 (by omega)
     have HG2:Hid (attrsLL decE A (s.data.toList.drop (k + 1)) = attrsLL decE [] (s.data.toList.drop a)):=hide (by
      rw [<- HG.out,hd,attrsLL_skip (by unfold whs;rw [hw,h47];rfl)])
     clear hw hd hc HG h47;go_wp2_with (go_at_call 153;refine (HSP.out _).mono ?_;rintro e w2 ⟨rfl,rfl⟩);go_roundw
     case rel=>exact ⟨k + 1,A,by omega,by go_num,hA30,HAB,HG2⟩
     case measure=>simp [intOf];omega
    have t47:((c.toNat:Int) == 47) = false:=tF 47 h47 (by omega);have hws:whs c = false:=by unfold whs;rw [hw,Bool.false_or,beq_eq_false_iff_ne];exact h47
    by_cases h62:c = 62
    ·have t62:((c.toNat:Int) == 62) = true:=tT 62 h62 (by omega)
     have HR:Hid (attrsLL decE [] (s.data.toList.drop a) = some (A,s.data.toList.drop (k + 1))):=hide (by
      rw [<- HG.out,hd,h62];exact attrsLL_end (by rw [List.dropWhile_cons_of_neg (by decide)]))
     have HK1:Hid (k + 1 <= s.data.toList.length):=hide (by omega);have hkw:wrap64 ((k:Int) + 1) = ((k + 1:Nat):Int):=by unfold wrap64;omega
     clear hw hd hc HG h62 h47 hws;go_wp2_with (go_at_call 153;refine (HSP.out _).mono ?_;rintro e w2 ⟨rfl,rfl⟩);go_ret2;exact AttrsP.some' HR.out HK1.out rfl hA30 HAB.out
    have t62:((c.toNat:Int) == 62) = false:=tF 62 h62 (by omega);obtain ⟨TT,hTT⟩:∃ TT,TT = untilN attrEndB s.data.toList (k + 1):=⟨_,rfl⟩
    have hTl:=until_le (p:=attrEndB) (l:=s.data.toList) (a:=k + 1) (by omega);rw [<- hTT,hla] at hTl;have HUN:=hide (fun w2=>until13_any s (k + 1) ⟨#[47,62,61]⟩ attrEndB w2 (by omega) (by omega) (by decide) attrEnd_has13);rw [<- hTT,show ((k + 1:Nat):Int) = (k:Int) + 1 by omega] at HUN;obtain ⟨PN,hPN⟩:∃ PN,s.extract k TT = PN:=⟨_,rfl⟩
    have hPl:PN.data.toList = (s.data.toList.drop k).take (TT - k):=by rw [<- hPN,extract_list,List.drop_take]
    have zPN:PN.size <= 16777216:=by rw [<- toList_length,hPl,List.length_take,List.length_drop];omega
    obtain ⟨nm,hnm⟩:∃ nm,nm = lowL ((s.data.toList.drop k).take (TT - k)):=⟨_,rfl⟩
    obtain ⟨NM,hNM⟩:∃ NM,NM = str nm:=⟨_,rfl⟩
    have HNM:=hide hNM;have HSM:=hide (fun w2=>small_any PN w2 (by omega));rw [hPl,<- hnm,<- hNM] at HSM;obtain ⟨EQ,hEQ⟩:∃ EQ,EQ = whiteN s.data.toList TT:=⟨_,rfl⟩
    have hEl:=white_le (l:=s.data.toList) (a:=TT) (by omega);rw [<- hEQ,hla] at hEl;have HWH:=hide (fun w2=>white13_any s TT w2 hTl.2 (by omega));rw [<- hEQ] at HWH;obtain ⟨hT1,hT2⟩:=hTl;obtain ⟨hE1,hE2⟩:=hEl;have q0:(k:Int) <= TT:=by omega
    have q1:(TT:Int) <= s.size:=by omega
    have hk1w:wrap64 ((k:Int) + 1) = (k:Int) + 1:=by unfold wrap64;omega
    by_cases heq:∃ b,s.data.toList.drop EQ = 61 :: b
    ·obtain ⟨b,hb⟩:=heq;have hstep:=ref_eq (A:=A) (by rw [hla];exact hk) hd hws h62 (b:=b) (by rw [<- hTT,<- hEQ];exact hb);rw [<- hTT,<- hEQ,<- hnm,HG.out] at hstep;clear hTT hEQ
     have hEs:EQ < s.size:=by
      have:=congrArg List.length hb;rw [List.length_drop,List.length_cons,hla] at this;omega
     have hb3:s[EQ] = 61:=by
      have h:=drop_cons s EQ hEs;rw [hb] at h;injection h with h1 _;exact h1.symm
     have t61:((s[EQ].toNat:Int) == 61) = true:=tT 61 hb3 (by omega);have hWl:=white_le (l:=s.data.toList) (a:=EQ + 1) (by omega);have HWH2:=hide (fun w2=>white13_any s (EQ + 1) w2 (by omega) (by omega));have hec:((EQ + 1:Nat):Int) = (EQ:Int) + 1:=by omega
     obtain ⟨W,hW⟩:∃ W,W = whiteN s.data.toList (EQ + 1):=⟨_,rfl⟩
     rw [<- hW,hla] at hWl;obtain ⟨hW1,hW2⟩:=hWl;rw [<- hW] at hstep;rw [<- hW,hec] at HWH2;clear hW hec;have hEw:wrap64 ((EQ:Int) + 1) = (EQ:Int) + 1:=by unfold wrap64;omega
     obtain ⟨vv,NN,hvr⟩:∃ vv NN,valR s.data.toList W = (vv,NN):=⟨_,_,rfl⟩
     have hvl:=valR_le (l:=s.data.toList) (a:=W) (by omega);have hvg:=valR_ge (l:=s.data.toList) (a:=W) (by omega);have HVA:=hide (fun w2=>value13_any s W w2 hW2 hs);rw [hvr] at hstep hvl hvg HVA;rw [hla] at hvl;obtain ⟨XV,hXV⟩:∃ XV,XV = str vv:=⟨_,rfl⟩
     have HXV:=hide hXV;simp only [<- hXV] at HVA
     have HT1:Hid (twB A nm = true -> attrsLL decE A (s.data.toList.drop NN) = attrsLL decE [] (s.data.toList.drop a)):=hide fun h=>by
      rw [hstep,counts_tw,h,if_neg (by decide)]
     have HT2:Hid (twB A nm = false -> attrsLL decE (A ++ [(nm,vv)]) (s.data.toList.drop NN) = attrsLL decE [] (s.data.toList.drop a)):=hide fun h=>by
      rw [hstep,counts_tw,h,if_pos (by decide)]
     have HNN:Hid (NN <= s.size /\ k < NN):=hide ⟨hvl.1,Nat.le_trans hT1 (Nat.le_trans hE1 (Nat.le_trans (Nat.le_succ _) (Nat.le_trans hW1 hvg)))⟩;clear hw hd hc HG h62 h47 hws hPl zPN hnm hNM hstep hb hb3 hvr hvl hvg hXV hW1 hW2;go_wp2_with (go_at_call 153;refine (HSP.out _).mono ?_;rintro e w0 ⟨rfl,rfl⟩);refine (HUN.out _).mono ?_;rintro e w1 ⟨rfl,hw1⟩;have HA1:=hide (HAB.out.kept (below_of13 hw1));clear hw1;go_wp2_with fail;refine (HSM.out _).mono ?_;rintro e w2 ⟨rfl,hb2⟩;have HA2:=hide (HA1.out.kept hb2);clear hb2;go_wp2_with fail;refine (HWH.out _).mono ?_;rintro e w3 ⟨rfl,hw3⟩;subst hw3;have HC3:Hid (ACell (w2.alloc (.cells #[.string NM,.string ⟨#[]⟩] 43)) w2.heap.size NM ⟨#[]⟩):=hide (alloc_new_block w2 _);have HA3:=hide (HA2.out.alloc (.cells #[.string NM,.string ⟨#[]⟩] 43));have hne3:=own_ne HA2.out;have hge3:=HA2.out.2.2;go_wp2_with fail;refine (HWH2.out _).mono ?_;rintro e w4 ⟨rfl,hw4⟩;subst hw4;go_wp2_with fail;refine (HVA.out _).mono ?_;rintro e w5 ⟨rfl,hb5⟩;have HC5:=hide (HC3.out.kept hb5);have HA5:=hide ((HA3.out.kept hb5).set hge3 hne3 1 (.string XV));have f5:=HC5.out.free 1;have g5:=HC5.out.cell1;have HAC:=hide (HC5.out.put1 XV);clear hb5 HC3 HA3 HC5 HA1 HA2 hne3 hge3;go_wp2_with fail;obtain ⟨wt,hwt⟩:∃ wt,wt = w5.setCell ⟨w2.heap.size,1,none⟩ (.string XV):=⟨_,rfl⟩
     have HAT:=HA5;rw [<- hwt] at HAC HAT ⊢;clear hwt f5 g5 HA5;have c0:=HAC.out.cell0;have c1:=HAC.out.cell1;go_loopw [10,11] (fun tv iv wr=>∃ (i:Nat) (t:Bool),i <= A.length /\ iv = .int .i64 i /\ tv = .bool t /\ Hid (t = (decide (30 <= A.length) || (A.take i).any fun x=>x.1 == nm)) /\ Hid (∃ m,wr = wt.drewN m)) (fun _ iv _=>A.length - (intOf iv).toNat)
     case atStart=>exact ⟨0,_,Nat.zero_le _,rfl,rfl,hide (by
       rw [List.take_zero,List.any_nil,Bool.or_false]
       first | rfl | exact decide_eq_decide.2 (by omega) | simp),hide ⟨0,rfl⟩⟩
     case round =>
      obtain ⟨i,t,hi,rfl,rfl,HTW,HW⟩:=hrel;have HAW:=hide (HAT.out.kept (below_of13 HW.out));have HCW:=hide (HAC.out.kept (below_of13 HW.out));have d0:=HCW.out.cell0;have d1:=HCW.out.cell1;clear c0 c1
      by_cases hil:i < A.length
      ·obtain ⟨f,hf⟩:∃ f,A[i]? = some f:=⟨_,List.getElem?_eq_getElem hil⟩
       have hany:=any_take (n:=nm) hf;cases t with
       | true =>
        have HT3:Hid (true = (decide (30 <= A.length) || (A.take (i + 1)).any fun x=>x.1 == nm)):=hide (by
         rw [hany,<- Bool.or_assoc,<- HTW.out];rfl)
        clear hf hany;go_wp2_with fail;go_quiet (fail);go_wp2_with fail;go_roundw
        case rel=>exact ⟨i + 1,true,by omega,by go_num,rfl,HT3,hide (drew_on' HW.out nq)⟩
        case measure=>simp [intOf];omega
       | false =>
        obtain ⟨b,hb,g1,_⟩:=(attrs_of_row HAW.out.1).at i f hf;subst hb;obtain ⟨P,hP⟩:∃ P,P = str f.1:=⟨_,rfl⟩
        rw [<- hP] at g1
        by_cases he:f.1 = nm
        ·have tpp:(P.toList == NM.toList) = true:=by rw [hP,HNM.out,he];exact beq_self_eq_true _
         have HT3:Hid (true = (decide (30 <= A.length) || (A.take (i + 1)).any fun x=>x.1 == nm)):=hide (by
          rw [hany,he,beq_self_eq_true,Bool.or_true,Bool.or_true])
         clear hf hany he hP;go_wp2_with fail;go_quiet (fail);go_wp2_with fail;go_roundw
         case rel=>exact ⟨i + 1,true,by omega,by go_num,rfl,HT3,hide (drew_on' HW.out nq)⟩
         case measure=>simp [intOf];omega
        ·have tpp:(P.toList == NM.toList) = false:=by rw [hP,HNM.out,str_list,str_list];exact beq_eq_false_iff_ne.2 he
         have HT3:Hid (false = (decide (30 <= A.length) || (A.take (i + 1)).any fun x=>x.1 == nm)):=hide (by
          rw [hany,beq_eq_false_iff_ne.2 he,Bool.or_false];exact HTW.out)
         clear hf hany he hP;go_wp2_with fail;go_quiet (fail);go_wp2_with fail;go_roundw
         case rel=>exact ⟨i + 1,false,by omega,by go_num,rfl,HT3,hide (drew_on' HW.out nq)⟩
         case measure=>simp [intOf];omega
      ·have htw:t = twB A nm:=by
        rw [HTW.out,List.take_of_length_le (by omega)];rfl
       cases t with
       | true =>
        have HG:=hide (HT1.out htw.symm);clear htw;go_wp2_with fail;go_roundw
        case rel=>exact ⟨NN,A,HNN.out.1,rfl,hA30,HAW,HG⟩
        case measure=>have:=HNN.out.2;simp [intOf];omega
       | false =>
        have HG:=hide (HT2.out htw.symm)
        have hlt30:A.length < 30:=by
         have h:=htw;unfold twB at h;rcases Nat.lt_or_ge A.length 30 with h2 | h2
         ·exact h2
         ·rw [decide_eq_true h2] at h;cases h
        clear htw;go_wp2_with (at_builtin;go_must (refine wpList_ats rfl _ _ rfl w.heap.size _ A rfl w (nm,vv) (HAW.out.alloc _) ⟨wr.heap.size,0,none⟩ rfl (by rw [Addr.add_lit,World.cell?_alloc_at _ _ _ _ rfl];show some (Value.string NM) = some (Value.string (str nm));rw [HNM.out]) (by rw [Addr.add_lit,World.cell?_alloc_at _ _ _ _ rfl];show some (Value.string XV) = some (Value.string (str vv));rw [HXV.out]) (by omega) ?_;intro v8 w8 hb8;have HB8:=hide hb8;clear hb8));go_roundw
        case rel=>exact ⟨NN,A ++ [(nm,vv)],HNN.out.1,rfl,by rw [List.length_append];exact hlt30,HB8,HG⟩
        case measure=>have:=HNN.out.2;simp [intOf];omega
    ·have hno:∀ b,s.data.toList.drop EQ ≠ 61 :: b:=fun b e=>heq ⟨b,e⟩
     have hstep:=ref_no (A:=A) hd hws h62 (by rw [<- hTT,<- hEQ];exact hno);rw [<- hTT,<- hnm,HG.out] at hstep;clear hTT hEQ;obtain ⟨vv,hvv⟩:∃ vv:List UInt8,vv = []:=⟨_,rfl⟩
     obtain ⟨XV,hXV⟩:∃ XV:ByteArray,XV = ⟨#[]⟩:=⟨_,rfl⟩
     have HXV:Hid (XV = str vv):=hide (by rw [hXV,hvv];rfl);obtain ⟨NN,hNN⟩:∃ NN,NN = TT:=⟨_,rfl⟩
     rw [<- hvv] at hstep
     have HT1:Hid (twB A nm = true -> attrsLL decE A (s.data.toList.drop NN) = attrsLL decE [] (s.data.toList.drop a)):=hide fun h=>by
      rw [hstep,counts_tw,h,hNN,if_neg (by decide)]
     have HT2:Hid (twB A nm = false -> attrsLL decE (A ++ [(nm,vv)]) (s.data.toList.drop NN) = attrsLL decE [] (s.data.toList.drop a)):=hide fun h=>by
      rw [hstep,counts_tw,h,hNN,if_pos (by decide)]
     have HNN:Hid (NN <= s.size /\ k < NN):=hide ⟨by rw [hNN];exact hT2,by rw [hNN];exact hT1⟩
     have tcase:¬ EQ < s.size \/ (EQ < s.size /\ ∃ h:EQ < s.size,((s[EQ].toNat:Int) == 61) = false):=by
      by_cases h:EQ < s.size
      ·refine .inr ⟨h,h,tF 61 (fun e=>?_) (by omega)⟩;exact hno (s.data.toList.drop (EQ + 1)) (by rw [drop_cons s EQ h,e];rfl)
      ·exact .inl h
     subst hNN;subst hXV;clear hw hd hc HG h62 h47 hws hPl zPN hnm hNM hstep hno heq hvv;rcases tcase with hEs | ⟨hEs,_,t61⟩
     all_goals
      go_wp2_with (go_at_call 153;refine (HSP.out _).mono ?_;rintro e w0 ⟨rfl,rfl⟩);refine (HUN.out _).mono ?_;rintro e w1 ⟨rfl,hw1⟩;have HA1:=hide (HAB.out.kept (below_of13 hw1));clear hw1;go_wp2_with fail;refine (HSM.out _).mono ?_;rintro e w2 ⟨rfl,hb2⟩;have HA2:=hide (HA1.out.kept hb2);clear hb2;go_wp2_with fail;refine (HWH.out _).mono ?_;rintro e w3 ⟨rfl,hw3⟩;subst hw3;have HC3:Hid (ACell (w2.alloc (.cells #[.string NM,.string ⟨#[]⟩] 43)) w2.heap.size NM ⟨#[]⟩):=hide (alloc_new_block w2 _);have HA3:=hide (HA2.out.alloc (.cells #[.string NM,.string ⟨#[]⟩] 43));have hne3:=own_ne HA2.out;have hge3:=HA2.out.2.2;go_wp2_with fail;obtain ⟨wt,hwt⟩:∃ wt,wt = w2.alloc (.cells #[.string NM,.string ⟨#[]⟩] 43):=⟨_,rfl⟩
      have HAC:=HC3;have HAT:=HA3;rw [<- hwt] at HAC HAT ⊢;clear hwt HC3 HA3 HA1 HA2 hne3 hge3;have c0:=HAC.out.cell0;have c1:=HAC.out.cell1;go_loopw [10,11] (fun tv iv wr=>∃ (i:Nat) (t:Bool),i <= A.length /\ iv = .int .i64 i /\ tv = .bool t /\ Hid (t = (decide (30 <= A.length) || (A.take i).any fun x=>x.1 == nm)) /\ Hid (∃ m,wr = wt.drewN m)) (fun _ iv _=>A.length - (intOf iv).toNat)
      case atStart=>exact ⟨0,_,Nat.zero_le _,rfl,rfl,hide (by
        rw [List.take_zero,List.any_nil,Bool.or_false]
        first | rfl | exact decide_eq_decide.2 (by omega) | simp),hide ⟨0,rfl⟩⟩
      case round =>
       obtain ⟨i,t,hi,rfl,rfl,HTW,HW⟩:=hrel;have HAW:=hide (HAT.out.kept (below_of13 HW.out));have HCW:=hide (HAC.out.kept (below_of13 HW.out));have d0:=HCW.out.cell0;have d1:=HCW.out.cell1;clear c0 c1
       by_cases hil:i < A.length
       ·obtain ⟨f,hf⟩:∃ f,A[i]? = some f:=⟨_,List.getElem?_eq_getElem hil⟩
        have hany:=any_take (n:=nm) hf;cases t with
        | true =>
         have HT3:Hid (true = (decide (30 <= A.length) || (A.take (i + 1)).any fun x=>x.1 == nm)):=hide (by
          rw [hany,<- Bool.or_assoc,<- HTW.out];rfl)
         clear hf hany;go_wp2_with fail;go_quiet (fail);go_wp2_with fail;go_roundw
         case rel=>exact ⟨i + 1,true,by omega,by go_num,rfl,HT3,hide (drew_on' HW.out nq)⟩
         case measure=>simp [intOf];omega
        | false =>
         obtain ⟨b,hb,g1,_⟩:=(attrs_of_row HAW.out.1).at i f hf;subst hb;obtain ⟨P,hP⟩:∃ P,P = str f.1:=⟨_,rfl⟩
         rw [<- hP] at g1
         by_cases he:f.1 = nm
         ·have tpp:(P.toList == NM.toList) = true:=by rw [hP,HNM.out,he];exact beq_self_eq_true _
          have HT3:Hid (true = (decide (30 <= A.length) || (A.take (i + 1)).any fun x=>x.1 == nm)):=hide (by
           rw [hany,he,beq_self_eq_true,Bool.or_true,Bool.or_true])
          clear hf hany he hP;go_wp2_with fail;go_quiet (fail);go_wp2_with fail;go_roundw
          case rel=>exact ⟨i + 1,true,by omega,by go_num,rfl,HT3,hide (drew_on' HW.out nq)⟩
          case measure=>simp [intOf];omega
         ·have tpp:(P.toList == NM.toList) = false:=by rw [hP,HNM.out,str_list,str_list];exact beq_eq_false_iff_ne.2 he
          have HT3:Hid (false = (decide (30 <= A.length) || (A.take (i + 1)).any fun x=>x.1 == nm)):=hide (by
           rw [hany,beq_eq_false_iff_ne.2 he,Bool.or_false];exact HTW.out)
          clear hf hany he hP;go_wp2_with fail;go_quiet (fail);go_wp2_with fail;go_roundw
          case rel=>exact ⟨i + 1,false,by omega,by go_num,rfl,HT3,hide (drew_on' HW.out nq)⟩
          case measure=>simp [intOf];omega
       ·have htw:t = twB A nm:=by
         rw [HTW.out,List.take_of_length_le (by omega)];rfl
        cases t with
        | true =>
         have HG:=hide (HT1.out htw.symm);clear htw;go_wp2_with fail;go_roundw
         case rel=>exact ⟨NN,A,HNN.out.1,rfl,hA30,HAW,HG⟩
         case measure=>have:=HNN.out.2;simp [intOf];omega
        | false =>
         have HG:=hide (HT2.out htw.symm)
         have hlt30:A.length < 30:=by
          have h:=htw;unfold twB at h;rcases Nat.lt_or_ge A.length 30 with h2 | h2
          ·exact h2
          ·rw [decide_eq_true h2] at h;cases h
         clear htw;go_wp2_with (at_builtin;go_must (refine wpList_ats rfl _ _ rfl w.heap.size _ A rfl w (nm,vv) (HAW.out.alloc _) ⟨wr.heap.size,0,none⟩ rfl (by rw [Addr.add_lit,World.cell?_alloc_at _ _ _ _ rfl];show some (Value.string NM) = some (Value.string (str nm));rw [HNM.out]) (by rw [Addr.add_lit,World.cell?_alloc_at _ _ _ _ rfl];show some (Value.string ⟨#[]⟩) = some (Value.string (str vv));rw [HXV.out]) (by omega) ?_;intro v8 w8 hb8;have HB8:=hide hb8;clear hb8));go_roundw
         case rel=>exact ⟨NN,A ++ [(nm,vv)],HNN.out.1,rfl,by rw [List.length_append];exact hlt30,HB8,HG⟩
         case measure=>have:=HNN.out.2;simp [intOf];omega
  ·have HR:Hid (attrsLL decE [] (s.data.toList.drop a) = none):=hide (by
    rw [<- HG.out,List.drop_eq_nil_of_le (by omega),attrsLL_none])
   clear hla;go_wp2_with fail;go_ret2;exact AttrsP.none' HR.out HAB.out.below
end Go.Proofs.YtiejmkjpgjbodaaGreatDoor
