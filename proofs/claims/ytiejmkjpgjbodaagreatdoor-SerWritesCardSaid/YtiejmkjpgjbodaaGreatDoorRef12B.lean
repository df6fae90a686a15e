import Derived.Test.YtiejmkjpgjbodaaGreatDoorRef12A
namespace Go.Proofs.YtiejmkjpgjbodaaGreatDoor
open Go.RowKit
set_option linter.unusedVariables false
set_option linter.unusedSimpArgs false
set_option maxRecDepth 100000
def onRV (o:Int × Nat):Value:=if 0 < o.2 then .tuple #[.string (str (runeL o.1)),.int .i64 (o.2 + 1:Nat)] else .tuple #[.string ⟨#[]⟩,.int .i64 0]
def noneV:Value:=.tuple #[.string ⟨#[]⟩,.int .i64 0]
def onRL:List UInt8 -> Value
  | 38 :: r=>onRV (refN r)
  | _=>noneV
theorem onRV_some (x:Int) (n:Nat):onRV (x,n + 1) = .tuple #[.string (str (runeL x)),.int .i64 (n + 1 + 1:Nat)]:=by
 unfold onRV;rw [if_pos (Nat.succ_pos _)]
theorem name_two {l:List UInt8} {x:Int} (h:nameN l = some x):2 <= l.length:=by
 have ha:∀ y ∈ namesL,2 <= y.length:=by decide
 exact ha l (name_mem l x h)
theorem name_hash (r:List UInt8):nameN (35 :: r) = none:=by
 cases e:nameN (35 :: r) with
 | none=>rfl
 | some x =>
  have ha:∀ y ∈ namesL,y.head? ≠ some 35:=by decide
  exact absurd rfl (ha _ (name_mem _ x e))
theorem rune_ne (x:Int):(str (runeL x)).toList.isEmpty = false:=by
 rw [str_list];have:=(runeL_length x).1;cases h:runeL x with
 | nil=>rw [h] at this;simp at this
 | cons a r=>rfl
set_option maxHeartbeats 4000000 in
theorem refOnR_no (s:ByteArray) (w:World) (h:∀ r,s.data.toList ≠ 38 :: r) :
  Calls Tryz.prog 135 #[.string s] w fun e w'=>e = .returned (onRL s.data.toList) /\ Below w.heap.size w w':=by
 have HV:Hid (onRL s.data.toList = noneV):=hide (by
  unfold onRL;split
  ·rename_i r e;exact absurd e (h r)
  ·rfl)
 by_cases h0:s.size = 0
 ·obtain ⟨z1,z2⟩:=size0 (t:=s) h0;clear h;go_enter Tryz.func135,Tryz.ntmps135;go_wp2_with fail;go_ret2;exact ⟨by rw [HV.out] <;> rfl,Below.refl _ _⟩
 ·have hp:0 < s.size:=by omega
  have h38:s[0] ≠ 38:=by
   intro e;have:=drop_cons s 0 hp;rw [List.drop_zero,e] at this;exact h _ this
  have t0:((s[0].toNat:Int) == 38) = false:=tF 38 h38 (by omega);have z2:=(sizeP h0).2;clear h h38;go_enter Tryz.func135,Tryz.ntmps135;go_wp2_with fail;go_ret2;exact ⟨by rw [HV.out] <;> rfl,Below.refl _ _⟩
def sgnV (k:List UInt8):Option Int -> Value
  | some x=>onRV (x,k.length + 1)
  | none=>noneV
set_option maxHeartbeats 8000000 in
theorem refOnR_yes (s:ByteArray) (w:World) (r:List UInt8) (hs:s.data.toList = 38 :: r) (hsz:s.size <= 16777216) :
  Calls Tryz.prog 135 #[.string s] w fun e w'=>e = .returned (onRL s.data.toList) /\ Below w.heap.size w w':=by
 have hp:0 < s.size:=by rw [<- toList_length,hs];exact Nat.succ_pos _
 have h38:s[0] = 38:=by
  have:=drop_cons s 0 hp;rw [List.drop_zero,hs] at this;injection this with e _;exact e.symm
 have hr:s.data.toList.drop 1 = r:=by rw [hs];rfl
 have t0:((s[0].toNat:Int) == 38) = true:=tT 38 h38 (by omega);have t0n:((s[0].toNat:Int) != 38) = false:=by rw [bne,t0];rfl
 have z2:s.toList.isEmpty = false:=(sizeP (by omega)).2;have HS:=hide hs;have HR:=hide hr;clear hs hr h38;go_enter Tryz.func135,Tryz.ntmps135;go_wp2_with fail;clear t0 t0n z2;go_loopw [4] (fun iv wr=>∃ k:Nat,1 <= k /\ k <= s.size /\ iv = .int .i64 k /\ Hid ((r.take (k - 1)).all isRB = true) /\ Hid (wr = w)) (fun iv _=>s.size - (intOf iv).toNat)
 case atStart=>exact ⟨1,Nat.le_refl _,hp,rfl,hide rfl,hide rfl⟩
 case round =>
  obtain ⟨k,k1,hk,rfl,HA,HW⟩:=hrel;obtain rfl:=HW.out
  by_cases hlt:k < s.size
  ·have hdk:r.drop (k - 1) = s[k] :: s.data.toList.drop (k + 1):=by
    rw [<- HR.out,List.drop_drop,show 1 + (k - 1) = k by omega];exact drop_cons s k hlt
   have hsnoc:r.take (k + 1 - 1) = r.take (k - 1) ++ [s[k]]:=by
    have hl:k - 1 < r.length:=by
     have:=congrArg List.length HS.out;rw [toList_length,List.length_cons] at this;omega
    rw [show k + 1 - 1 = (k - 1) + 1 by omega,List.take_add_one,List.getElem?_eq_getElem hl];have:=List.drop_eq_getElem_cons hl;rw [hdk] at this;injection this with e _;rw [<- e];rfl
   by_cases hl:letterB s[k] = true
   ·have HA2:Hid ((r.take (k + 1 - 1)).all isRB = true):=hide (by rw [hsnoc,List.all_append,HA.out];simp [isRB,hl]);have HL:=hide hl;clear hdk hsnoc hl;go_wp2_with (go_at_call 152;refine (letter_any _ _).mono ?_;rintro e wx ⟨rfl,hwx⟩;obtain rfl:=hwx;rw [HL.out]);go_roundw
    case rel=>exact ⟨k + 1,by omega,by omega,by go_num,HA2,by first | exact trivial | exact hide rfl⟩
    case measure=>simp [intOf];omega
   have hl0:letterB s[k] = false:=by simpa using hl
   by_cases hd:digitB s[k] = true
   ·have HA2:Hid ((r.take (k + 1 - 1)).all isRB = true):=hide (by rw [hsnoc,List.all_append,HA.out];simp [isRB,hd]);have HL:=hide hl0;have HD:=hide hd;clear hdk hsnoc hl hl0 hd;go_wp2_with (first | (go_at_call 152;refine (letter_any _ _).mono ?_;rintro e wx ⟨rfl,hwx⟩;obtain rfl:=hwx;rw [HL.out]) | (go_at_call 157;refine (digit03_any _ _).mono ?_;rintro e wx ⟨rfl,hwx⟩;obtain rfl:=hwx;rw [HD.out]));go_roundw
    case rel=>exact ⟨k + 1,by omega,by omega,by go_num,HA2,by first | exact trivial | exact hide rfl⟩
    case measure=>simp [intOf];omega
   have hd0:digitB s[k] = false:=by simpa using hd
   by_cases h35:s[k] = 35
   ·have HA2:Hid ((r.take (k + 1 - 1)).all isRB = true):=hide (by rw [hsnoc,List.all_append,HA.out];simp [isRB,h35]);have HL:=hide hl0;have HD:=hide hd0;have t35:((s[k].toNat:Int) == 35) = true:=tT 35 h35 (by omega);clear hdk hsnoc hl hl0 hd hd0 h35;go_wp2_with (first | (go_at_call 152;refine (letter_any _ _).mono ?_;rintro e wx ⟨rfl,hwx⟩;obtain rfl:=hwx;rw [HL.out]) | (go_at_call 157;refine (digit03_any _ _).mono ?_;rintro e wx ⟨rfl,hwx⟩;obtain rfl:=hwx;rw [HD.out]));go_roundw
    case rel=>exact ⟨k + 1,by omega,by omega,by go_num,HA2,by first | exact trivial | exact hide rfl⟩
    case measure=>simp [intOf];omega
   have t35:((s[k].toNat:Int) == 35) = false:=tF 35 h35 (by omega)
   have hrun:=refN_run (r:=r) (k:=r.take (k - 1)) (q:=s[k] :: s.data.toList.drop (k + 1)) (by rw [<- hdk,List.take_append_drop]) HA.out (by
    intro c t e;injection e with e _;subst e;simp [isRB,hl0,hd0,h35])
   have HL:=hide hl0;have HD:=hide hd0;have kne:((k:Int) == (s.size:Int)) = false:=beq_eq_false_iff_ne.2 (by omega);have kne2:(k == s.size) = false:=beq_eq_false_iff_ne.2 (by omega)
   by_cases h59:s[k] = 59
   ·have t59:((s[k].toNat:Int) == 59) = true:=tT 59 h59 (by omega);rw [h59] at hrun
    have HONE0:Hid (onRL s.data.toList = sgnV (r.take (k - 1)) (sgn (r.take (k - 1)))):=hide (by
     rw [HS.out];show onRV (refN r) = _
     rw [hrun,runV_semi];cases sgn (r.take (k - 1)) <;> rfl)
    have hTl:(s.extract 1 k).data.toList = r.take (k - 1):=by
     rw [extract_list,<- HR.out,List.drop_take]
    have hTz:(s.extract 1 k).size = k - 1:=by rw [ByteArray.size_extract];omega
    rw [<- hTl] at HONE0;have HTL0:Hid ((s.extract 1 k).data.toList.length + 1 + 1 = k + 1):=hide (by rw [toList_length,hTz];omega);clear hl hl0 hd hd0 h35 h59 hrun hdk hsnoc hTl;have kk1:(1:Int) <= k:=by omega
    have kk2:(k:Int) <= s.size:=by omega
    go_upto_region 9 with (first | (go_at_call 152;refine (letter_any _ _).mono ?_;rintro e wx ⟨rfl,hwx⟩;obtain rfl:=hwx;rw [HL.out]) | (go_at_call 157;refine (digit03_any _ _).mono ?_;rintro e wx ⟨rfl,hwx⟩;obtain rfl:=hwx;rw [HD.out]))
    generalize hT:s.extract 1 k = T at HONE0 HTL0 hTz;have HONE:=hide HONE0.out;have HTL:=hide HTL0.out;clear HONE0 HTL0 hT kne kne2 t35 t59;have tz:T.data.toList.length = T.size:=toList_length T
    by_cases hz:1 < T.size
    ·have z1:(1:Int) < T.size:=by omega
     have z0:0 < T.size:=by omega
     have zd:decide ((1:Int) < T.size) = true:=decide_eq_true z1;have z3:(2:Int) <= T.size:=by omega
     have z4:(1:Int) <= T.size:=by omega
     have hT0:=drop_cons T 0 z0;have hT1:=drop_cons T 1 hz;rw [List.drop_zero] at hT0;rw [hT1] at hT0
     by_cases g0:T[0] = 35
     ·have e0:((T[0].toNat:Int) == 35) = true:=tT 35 g0 (by omega);rw [g0] at hT0;have HTH:=hide hT0
      by_cases g1:T[1] = 120
      ·have e1:((T[1].toNat:Int) == 120) = true:=tT 120 g1 (by omega);have HSG:Hid (sgn T.data.toList = numAt 16 6 (T.data.toList.drop 2)):=hide (by rw [hT0,sgn_num,byN_x _ _ (.inl g1)];rfl);clear hT0 hT1 g0 g1 tz hTz;have HNM:Hid (namedB T.data.toList = ⟨#[]⟩):=hide (by unfold namedB;rw [HTH.out,name_hash]);have hD:(T.extract 2 T.size).data.toList = T.data.toList.drop 2:=extract_end T 2;have hdig:=refDigs16 (T.extract 2 T.size);rw [hD] at hdig;rcases digs_num (b:=16) (m:=6) (by decide) (T.data.toList.drop 2) with ⟨n,hn1,hn2,hn3,hn4⟩ | ⟨hn1,hn2⟩
       ·rw [hn1] at hdig
        have hnb:n <= 16777216:=by
         have:=Nat.pow_le_pow_right (n:=16) (by decide) hn4;omega
        have HDG:=hide hdig;have HNU:=hide (fun (w:World)=>refNumbered_any n w hnb);have HV:Hid (onRL s.data.toList = .tuple #[.string (str (runeL (signN n))),.int .i64 (k + 1:Nat)]):=hide (by rw [HONE.out,HSG.out,hn2];show onRV (signN n,T.data.toList.length + 1) = _;rw [onRV_some,HTL.out]);have n0:decide ((0:Int) <= n) = true:=decide_eq_true (by omega);clear hdig hD hn1 hn2 hn3 hn4
        go_wp2_with (first
         |(go_at_call 158;refine (HDG.out _).mono ?_;rintro e wd ⟨rfl,hwd⟩;obtain rfl:=hwd)
         |(go_at_call 159;refine (HNU.out _).mono ?_;rintro e wn ⟨rfl,hbn⟩))
        go_ret2;exact ⟨by rw [HV.out] <;> rfl,hbn⟩
       ·rw [hn1] at hdig;have HDG:=hide hdig;have HV:Hid (onRL s.data.toList = noneV):=hide (by rw [HONE.out,HSG.out,hn2];rfl);clear hdig hD hn1 hn2
        go_wp2_with (first
         |(go_at_call 158;refine (HDG.out _).mono ?_;rintro e wd ⟨rfl,hwd⟩;obtain rfl:=hwd)
         |(go_at_call 160;refine (refNamed_any _ _).mono ?_;rintro e wn ⟨rfl,hbn⟩;rw [HNM.out]))
        go_ret2;exact ⟨by rw [HV.out] <;> rfl,hbn⟩
      by_cases g2:T[1] = 88
      ·have e1:((T[1].toNat:Int) == 120) = false:=tF 120 g1 (by omega);have e2:((T[1].toNat:Int) == 88) = true:=tT 88 g2 (by omega);have HSG:Hid (sgn T.data.toList = numAt 16 6 (T.data.toList.drop 2)):=hide (by rw [hT0,sgn_num,byN_x _ _ (.inr g2)];rfl);clear hT0 hT1 g0 g1 g2 tz hTz;have HNM:Hid (namedB T.data.toList = ⟨#[]⟩):=hide (by unfold namedB;rw [HTH.out,name_hash]);have hD:(T.extract 2 T.size).data.toList = T.data.toList.drop 2:=extract_end T 2;have hdig:=refDigs16 (T.extract 2 T.size);rw [hD] at hdig;rcases digs_num (b:=16) (m:=6) (by decide) (T.data.toList.drop 2) with ⟨n,hn1,hn2,hn3,hn4⟩ | ⟨hn1,hn2⟩
       ·rw [hn1] at hdig
        have hnb:n <= 16777216:=by
         have:=Nat.pow_le_pow_right (n:=16) (by decide) hn4;omega
        have HDG:=hide hdig;have HNU:=hide (fun (w:World)=>refNumbered_any n w hnb);have HV:Hid (onRL s.data.toList = .tuple #[.string (str (runeL (signN n))),.int .i64 (k + 1:Nat)]):=hide (by rw [HONE.out,HSG.out,hn2];show onRV (signN n,T.data.toList.length + 1) = _;rw [onRV_some,HTL.out]);have n0:decide ((0:Int) <= n) = true:=decide_eq_true (by omega);clear hdig hD hn1 hn2 hn3 hn4
        go_wp2_with (first
         |(go_at_call 158;refine (HDG.out _).mono ?_;rintro e wd ⟨rfl,hwd⟩;obtain rfl:=hwd)
         |(go_at_call 159;refine (HNU.out _).mono ?_;rintro e wn ⟨rfl,hbn⟩))
        go_ret2;exact ⟨by rw [HV.out] <;> rfl,hbn⟩
       ·rw [hn1] at hdig;have HDG:=hide hdig;have HV:Hid (onRL s.data.toList = noneV):=hide (by rw [HONE.out,HSG.out,hn2];rfl);clear hdig hD hn1 hn2
        go_wp2_with (first
         |(go_at_call 158;refine (HDG.out _).mono ?_;rintro e wd ⟨rfl,hwd⟩;obtain rfl:=hwd)
         |(go_at_call 160;refine (refNamed_any _ _).mono ?_;rintro e wn ⟨rfl,hbn⟩;rw [HNM.out]))
        go_ret2;exact ⟨by rw [HV.out] <;> rfl,hbn⟩
      ·have e1:((T[1].toNat:Int) == 120) = false:=tF 120 g1 (by omega);have e2:((T[1].toNat:Int) == 88) = false:=tF 88 g2 (by omega)
       have HSG:Hid (sgn T.data.toList = numAt 10 7 (T.data.toList.drop 1)):=hide (by
        rw [hT0,sgn_num,byN_d]
        ·rfl
        ·intro c' r' e;injection e with e3 _;subst e3;exact fun e=>e.elim g1 g2)
       clear hT0 hT1 g0 g1 g2 tz hTz;have HNM:Hid (namedB T.data.toList = ⟨#[]⟩):=hide (by unfold namedB;rw [HTH.out,name_hash]);have hD:(T.extract 1 T.size).data.toList = T.data.toList.drop 1:=extract_end T 1;have hdig:=refDigs10 (T.extract 1 T.size);rw [hD] at hdig;rcases digs_num (b:=10) (m:=7) (by decide) (T.data.toList.drop 1) with ⟨n,hn1,hn2,hn3,hn4⟩ | ⟨hn1,hn2⟩
       ·rw [hn1] at hdig
        have hnb:n <= 16777216:=by
         have:=Nat.pow_le_pow_right (n:=10) (by decide) hn4;omega
        have HDG:=hide hdig;have HNU:=hide (fun (w:World)=>refNumbered_any n w hnb);have HV:Hid (onRL s.data.toList = .tuple #[.string (str (runeL (signN n))),.int .i64 (k + 1:Nat)]):=hide (by rw [HONE.out,HSG.out,hn2];show onRV (signN n,T.data.toList.length + 1) = _;rw [onRV_some,HTL.out]);have n0:decide ((0:Int) <= n) = true:=decide_eq_true (by omega);clear hdig hD hn1 hn2 hn3 hn4
        go_wp2_with (first
         |(go_at_call 158;refine (HDG.out _).mono ?_;rintro e wd ⟨rfl,hwd⟩;obtain rfl:=hwd)
         |(go_at_call 159;refine (HNU.out _).mono ?_;rintro e wn ⟨rfl,hbn⟩))
        go_ret2;exact ⟨by rw [HV.out] <;> rfl,hbn⟩
       ·rw [hn1] at hdig;have HDG:=hide hdig;have HV:Hid (onRL s.data.toList = noneV):=hide (by rw [HONE.out,HSG.out,hn2];rfl);clear hdig hD hn1 hn2
        go_wp2_with (first
         |(go_at_call 158;refine (HDG.out _).mono ?_;rintro e wd ⟨rfl,hwd⟩;obtain rfl:=hwd)
         |(go_at_call 160;refine (refNamed_any _ _).mono ?_;rintro e wn ⟨rfl,hbn⟩;rw [HNM.out]))
        go_ret2;exact ⟨by rw [HV.out] <;> rfl,hbn⟩
     ·have e0:((T[0].toNat:Int) == 35) = false:=tF 35 g0 (by omega);have HSG:Hid (sgn T.data.toList = nameN T.data.toList):=hide (sgn_name _ (by intro q e;rw [hT0] at e;injection e with e _;exact g0 e));clear hT0 hT1 g0 tz hTz;cases hnm:nameN T.data.toList with
      | none =>
       have HNM:Hid (namedB T.data.toList = ⟨#[]⟩):=hide (by unfold namedB;rw [hnm]);have HV:Hid (onRL s.data.toList = noneV):=hide (by rw [HONE.out,HSG.out,hnm];rfl);clear hnm;go_wp2_with (go_at_call 160;refine (refNamed_any _ _).mono ?_;rintro e wn ⟨rfl,hbn⟩;rw [HNM.out]);go_ret2;exact ⟨by rw [HV.out] <;> rfl,hbn⟩
      | some x =>
       obtain ⟨V,hV⟩:∃ V,V = str (runeL x):=⟨_,rfl⟩
       have HNM:Hid (namedB T.data.toList = V):=hide (by unfold namedB;rw [hnm,hV]);have HV:Hid (onRL s.data.toList = .tuple #[.string V,.int .i64 (k + 1:Nat)]):=hide (by rw [HONE.out,HSG.out,hnm];show onRV (x,T.data.toList.length + 1) = _;rw [onRV_some,HTL.out,<- hV]);have ve:V.toList.isEmpty = false:=by rw [hV];exact rune_ne x
       clear hnm hV;go_wp2_with (go_at_call 160;refine (refNamed_any _ _).mono ?_;rintro e wn ⟨rfl,hbn⟩;rw [HNM.out]);go_ret2;exact ⟨by rw [HV.out] <;> rfl,hbn⟩
    ·have z1:¬ (1:Int) < T.size:=by omega
     have zd:decide ((1:Int) < T.size) = false:=decide_eq_false z1
     have HSG:Hid (sgn T.data.toList = nameN T.data.toList):=hide (by
      have h1:sgn T.data.toList = none:=by
       cases e:sgn T.data.toList with
       | none=>rfl
       | some x=>have:=sgn_two e;omega
      have h2:nameN T.data.toList = none:=by
       cases e:nameN T.data.toList with
       | none=>rfl
       | some x=>have:=name_two e;omega
      rw [h1,h2])
     clear hz tz hTz;cases hnm:nameN T.data.toList with
     | none =>
      have HNM:Hid (namedB T.data.toList = ⟨#[]⟩):=hide (by unfold namedB;rw [hnm]);have HV:Hid (onRL s.data.toList = noneV):=hide (by rw [HONE.out,HSG.out,hnm];rfl);clear hnm;go_wp2_with (go_at_call 160;refine (refNamed_any _ _).mono ?_;rintro e wn ⟨rfl,hbn⟩;rw [HNM.out]);go_ret2;exact ⟨by rw [HV.out] <;> rfl,hbn⟩
     | some x =>
      obtain ⟨V,hV⟩:∃ V,V = str (runeL x):=⟨_,rfl⟩
      have HNM:Hid (namedB T.data.toList = V):=hide (by unfold namedB;rw [hnm,hV]);have HV:Hid (onRL s.data.toList = .tuple #[.string V,.int .i64 (k + 1:Nat)]):=hide (by rw [HONE.out,HSG.out,hnm];show onRV (x,T.data.toList.length + 1) = _;rw [onRV_some,HTL.out,<- hV]);have ve:V.toList.isEmpty = false:=by rw [hV];exact rune_ne x
      clear hnm hV;go_wp2_with (go_at_call 160;refine (refNamed_any _ _).mono ?_;rintro e wn ⟨rfl,hbn⟩;rw [HNM.out]);go_ret2;exact ⟨by rw [HV.out] <;> rfl,hbn⟩
   ·have t59:((s[k].toNat:Int) == 59) = false:=tF 59 h59 (by omega)
    have HV:Hid (onRL s.data.toList = noneV):=hide (by
     rw [HS.out];show onRV (refN r) = _
     rw [hrun,runV_no (fun X e=>by injection e with e _;exact absurd e h59)];rfl)
    clear hl hl0 hd hd0 h35 h59 hrun hdk hsnoc;go_wp2_with (first | (go_at_call 152;refine (letter_any _ _).mono ?_;rintro e wx ⟨rfl,hwx⟩;obtain rfl:=hwx;rw [HL.out]) | (go_at_call 157;refine (digit03_any _ _).mono ?_;rintro e wx ⟨rfl,hwx⟩;obtain rfl:=hwx;rw [HD.out]));go_ret2;exact ⟨by rw [HV.out] <;> rfl,Below.refl _ _⟩
  ·have hks:k = s.size:=by omega
   have hrun:=refN_run (r:=r) (k:=r.take (k - 1)) (q:=[]) (by
    have hl:r.length = k - 1:=by
     have:=congrArg List.length HS.out;rw [toList_length,List.length_cons] at this;omega
    rw [List.append_nil,List.take_of_length_le (by omega)]) HA.out (by intro c t e;cases e)
   have HV:Hid (onRL s.data.toList = noneV):=hide (by
    rw [HS.out];show onRV (refN r) = _
    rw [hrun];rfl)
   have kne:((k:Int) == (s.size:Int)) = true:=beq_iff_eq.2 (by omega);have kne2:(k == s.size) = true:=beq_iff_eq.2 (by omega);clear hrun hks;go_wp2_with fail;go_ret2;exact ⟨by rw [HV.out] <;> rfl,Below.refl _ _⟩
theorem refOnR_any (s:ByteArray) (w:World) (hsz:s.size <= 16777216) :
  Calls Tryz.prog 135 #[.string s] w fun e w'=>e = .returned (onRL s.data.toList) /\ Below w.heap.size w w':=by
 by_cases h:∃ r,s.data.toList = 38 :: r
 ·obtain ⟨r,hr⟩:=h;exact refOnR_yes s w r hr hsz
 ·exact refOnR_no s w (fun r e=>h ⟨r,e⟩)
end Go.Proofs.YtiejmkjpgjbodaaGreatDoor
