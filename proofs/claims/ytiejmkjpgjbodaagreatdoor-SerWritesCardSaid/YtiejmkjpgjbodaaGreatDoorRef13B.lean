import Derived.Test.YtiejmkjpgjbodaaGreatDoorRef13A
import Derived.Test.YtiejmkjpgjbodaaGreatDoorRef12D
import Derived.Test.YtiejmkjpgjbodaaGreatDoorBaseP
namespace Go.Proofs.YtiejmkjpgjbodaaGreatDoor
open Go.RowKit
set_option linter.unusedVariables false
set_option linter.unusedSimpArgs false
set_option maxRecDepth 100000
def valR (l:List UInt8) (a:Nat):List UInt8 × Nat:=match l.drop a with
  | c :: r=>if c = 34 \/ c = 39 then (match findAt [c] r with | none=>([],l.length) | some k=>(decE (r.take k),a + 1 + k + 1)) else (decE ((l.drop a).take (untilN valueEndB l a - a)),untilN valueEndB l a)
  | []=>(decE ((l.drop a).take (untilN valueEndB l a - a)),untilN valueEndB l a)
theorem valR_plain {l:List UInt8} {a:Nat} (h:∀ c r,l.drop a = c :: r -> c ≠ 34 /\ c ≠ 39):valR l a = (decE ((l.drop a).take (untilN valueEndB l a - a)),untilN valueEndB l a):=by
 unfold valR;split
 ·rename_i c r hd;obtain ⟨h1,h2⟩:=h c r hd;rw [if_neg (fun e=>e.elim h1 h2),hd]
 ·rename_i hd;rw [hd]
theorem valR_quote {l r:List UInt8} {a:Nat} {c:UInt8} (hd:l.drop a = c :: r) (hc:c = 34 \/ c = 39):valR l a = match findAt [c] r with | none=>([],l.length) | some k=>(decE (r.take k),a + 1 + k + 1):=by
 unfold valR;split
 ·rename_i c' r' hd';rw [hd] at hd';injection hd' with h1 h2;subst h1 h2;rw [if_pos hc]
 ·rename_i hd';rw [hd] at hd';cases hd'
theorem valR_le {l:List UInt8} {a:Nat} (h:a <= l.length):(valR l a).2 <= l.length /\ (valR l a).1.length <= l.length:=by
 have hp:∀ x:List UInt8,x.length <= l.length -> (decE x).length <= l.length:=fun x hx=>Nat.le_trans (decE_len _ x (Nat.le_refl _)) hx
 by_cases hq:∀ c r,l.drop a = c :: r -> c ≠ 34 /\ c ≠ 39
 ·rw [valR_plain hq];refine ⟨(until_le h).2,hp _ ?_⟩;rw [List.length_take,List.length_drop];omega
 ·cases hd:l.drop a with
  | nil=>exact absurd (fun c r e=>by rw [hd] at e;cases e) hq
  | cons c r =>
   have hc:c = 34 \/ c = 39:=by
    by_cases h1:c = 34
    ·exact .inl h1
    ·by_cases h2:c = 39
     ·exact .inr h2
     ·exact absurd (fun c' r' e=>by rw [hd] at e;injection e with e1 _;subst e1;exact ⟨h1,h2⟩) hq
   have hlen:=congrArg List.length hd;rw [List.length_drop,List.length_cons] at hlen;rw [valR_quote hd hc];cases hf:findAt [c] r with
   | none=>exact ⟨Nat.le_refl _,Nat.zero_le _⟩
   | some k =>
    have:=findAt_le (t:=[c]) (by simp) hf;simp only [List.length_cons,List.length_nil] at this;refine ⟨by simp only;omega,hp _ ?_⟩;rw [List.length_take];omega
theorem valR_L (l:List UInt8) (a:Nat) (h:a <= l.length):(valueL (l.drop a)).2 = l.drop (valR l a).2 /\ ((valueL (l.drop a)).2 ≠ [] -> decE (valueL (l.drop a)).1 = (valR l a).1):=by
 have hup:=until_up valueEndB l a
 by_cases hq:∀ c r,l.drop a = c :: r -> c ≠ 34 /\ c ≠ 39
 ·rw [valR_plain hq]
  have hv:valueL (l.drop a) = upL valueEndB (l.drop a):=by
   cases hd:l.drop a with
   | nil=>rfl
   | cons c r =>
    obtain ⟨h1,h2⟩:=hq c r hd;unfold valueL;simp only;rw [if_neg h1,if_neg h2]
  rw [hv,hup];exact ⟨rfl,fun _=>rfl⟩
 ·cases hd:l.drop a with
  | nil=>exact absurd (fun c r e=>by rw [hd] at e;cases e) hq
  | cons c r =>
   have hc:c = 34 \/ c = 39:=by
    by_cases h1:c = 34
    ·exact .inl h1
    ·by_cases h2:c = 39
     ·exact .inr h2
     ·exact absurd (fun c' r' e=>by rw [hd] at e;injection e with e1 _;subst e1;exact ⟨h1,h2⟩) hq
   have hv:valueL (c :: r) = cutAt [c] r:=by
    rw [cut_one13];unfold valueL;rcases hc with rfl | rfl
    ·rfl
    ·rfl
   rw [valR_quote hd hc,hv,cut_find];cases hf:findAt [c] r with
   | none=>simp only;exact ⟨by rw [List.drop_length],fun h=>absurd rfl h⟩
   | some k =>
    simp only;refine ⟨?_,fun _=>by first | rfl | trivial⟩;have:r = l.drop (a + 1):=(drop_succ13 hd).symm;rw [this,List.drop_drop]
    congr 1
theorem valueEnd_has13 (c:UInt8):valueEndB c = (whB c || (⟨#[62]⟩:ByteArray).data.toList.contains c):=by
 unfold valueEndB;simp only [List.contains_cons,List.contains_nil,Bool.or_false]
set_option maxHeartbeats 4000000 in
theorem value13_any (s:ByteArray) (a:Nat) (w:World) (ha:a <= s.size) (hs:s.size <= 16777216) :
  Calls Tryz.prog 155 #[.string s,.int .i64 a] w fun e w'=>e = .returned (.tuple #[.string (str (valR s.data.toList a).1),.int .i64 ((valR s.data.toList a).2:Nat)]) /\ Below w.heap.size w w':=by
 have hla:=toList_length s;obtain ⟨V,N,hVN⟩:∃ V N,valR s.data.toList a = (V,N):=⟨_,_,rfl⟩
 rw [hVN];show Calls Tryz.prog 155 #[.string s,.int .i64 a] w fun e w'=>e = .returned (.tuple #[.string (str V),.int .i64 (N:Nat)]) /\ Below w.heap.size w w'
 obtain ⟨X,hX⟩:∃ X,X = str V:=⟨_,rfl⟩
 rw [<- hX]
 by_cases hq:∀ c r,s.data.toList.drop a = c :: r -> c ≠ 34 /\ c ≠ 39
 ·obtain ⟨U,hU⟩:∃ U,U = untilN valueEndB s.data.toList a:=⟨_,rfl⟩
  have hUl:=until_le (p:=valueEndB) (l:=s.data.toList) (a:=a) (by omega);rw [<- hU,hla] at hUl;have HUN:=hide (fun w2=>until13_any s a ⟨#[62]⟩ valueEndB w2 ha (by omega) (by decide) valueEnd_has13);rw [<- hU] at HUN;obtain ⟨P,hP⟩:∃ P,s.extract a U = P:=⟨_,rfl⟩
  have hPl:P.data.toList = (s.data.toList.drop a).take (U - a):=by rw [<- hP,extract_list,List.drop_take]
  have zP:P.size <= 16777216:=by rw [<- toList_length,hPl,List.length_take,List.length_drop];omega
  have HDE:=hide (fun w2=>refDecode12_any P w2 zP);rw [hPl] at HDE;have q0:(a:Int) <= U:=by omega
  have q1:(U:Int) <= s.size:=by omega
  have hv2:valR s.data.toList a = (decE ((s.data.toList.drop a).take (U - a)),U):=by rw [valR_plain hq,hU]
  rw [hVN] at hv2;injection hv2 with hv3 hv4;rw [<- hv3,<- hX] at HDE;subst hv4
  by_cases hlt:a < s.size
  ·have hd:=drop_cons s a hlt;obtain ⟨n1,n2⟩:=hq _ _ hd;have t1:((s[a].toNat:Int) == 34) = false:=tF 34 n1 (by omega);have t2:((s[a].toNat:Int) == 39) = false:=tF 39 n2 (by omega);clear hd n1 n2 hq hU hPl hla hVN hv3 hX;go_enter Tryz.func155,Tryz.ntmps155;go_wp2_with fail;refine (HUN.out _).mono ?_;rintro e w1 ⟨rfl,hw1⟩;have HB1:Hid (Below w.heap.size w w1):=hide (by obtain ⟨m,rfl⟩:=hw1;exact ⟨rfl,rfl,rfl,Nat.le_refl _,fun _ _=>rfl⟩);clear hw1;go_wp2_with fail;refine (HDE.out _).mono ?_;rintro e w2 ⟨rfl,hb2⟩;have HB2:=hide (HB1.out.trans (hb2.mono HB1.out.size));clear hb2;go_wp2_with fail;go_ret2;exact ⟨rfl,HB2.out⟩
  ·clear hq hU hPl hla hVN hv3 hX;go_enter Tryz.func155,Tryz.ntmps155;go_wp2_with fail;refine (HUN.out _).mono ?_;rintro e w1 ⟨rfl,hw1⟩;have HB1:Hid (Below w.heap.size w w1):=hide (by obtain ⟨m,rfl⟩:=hw1;exact ⟨rfl,rfl,rfl,Nat.le_refl _,fun _ _=>rfl⟩);clear hw1;go_wp2_with fail;refine (HDE.out _).mono ?_;rintro e w2 ⟨rfl,hb2⟩;have HB2:=hide (HB1.out.trans (hb2.mono HB1.out.size));clear hb2;go_wp2_with fail;go_ret2;exact ⟨rfl,HB2.out⟩
 ·have hlt:a < s.size:=by
   rcases Nat.lt_or_ge a s.size with h | h
   ·exact h
   ·exact absurd (fun c r e=>by rw [List.drop_eq_nil_of_le (by omega)] at e;cases e) hq
  have hd:=drop_cons s a hlt;obtain ⟨c,hc⟩:∃ c,s[a] = c:=⟨_,rfl⟩
  obtain ⟨r,hr⟩:∃ r,r = s.data.toList.drop (a + 1):=⟨_,rfl⟩
  rw [hc,<- hr] at hd
  have hcq:c = 34 \/ c = 39:=by
   by_cases h1:c = 34
   ·exact .inl h1
   ·by_cases h2:c = 39
    ·exact .inr h2
    ·exact absurd (fun c' r' e=>by rw [hd] at e;injection e with e1 _;subst e1;exact ⟨h1,h2⟩) hq
  obtain ⟨T,hT⟩:∃ T,s.extract a (a + 1) = T:=⟨_,rfl⟩
  have hTl:T.data.toList = [c]:=by
   rw [<- hT,extract_list,List.drop_take,hd,Nat.add_sub_cancel_left];rfl
  have zT:T.size = 1:=by rw [<- toList_length,hTl];rfl
  have HIX:=hide (fun w2=>index13_any s (a + 1) T w2 (by omega) (by omega) (by omega) (by omega));rw [hTl] at HIX;have hvq:=valR_quote hd hcq
  have hrl:r.length + a + 1 = s.size:=by
   have:=congrArg List.length hd;rw [List.length_drop,List.length_cons,hla] at this;omega
  have hix:idxZ [c] s.data.toList (a + 1) = match findAt [c] r with | some k=>((a + 1 + k:Nat):Int) | none=>-1:=by
   unfold idxZ;rw [<- hr];cases findAt [c] r <;> rfl
  have q0:(0:Int) <= a:=by omega
  have q1:(a:Int) + 1 <= s.size:=by omega
  have tc:((s[a].toNat:Int) == 34) = true \/ (((s[a].toNat:Int) == 34) = false /\ ((s[a].toNat:Int) == 39) = true):=by
   rcases hcq with h | h
   ·exact .inl (tT 34 (by rw [hc,h];rfl) (by omega))
   ·exact .inr ⟨tF 34 (by rw [hc,h];decide) (by omega),tT 39 (by rw [hc,h];rfl) (by omega)⟩
  have hca:((a + 1:Nat):Int) = (a:Int) + 1:=by omega
  rw [hca] at HIX;cases hf:findAt [c] r with
  | none =>
   rw [hf] at hvq hix;simp only at hvq hix;rw [hix] at HIX;rw [hvq,hla] at hVN;injection hVN with hv3 hv4;rw [<- hv3] at hX;subst hX;subst hv4;clear hc hvq hv3 hix hf hd hr hrl hTl zT hq hcq hla hca;rcases tc with t1 | ⟨t1,t2⟩
   all_goals
    go_enter Tryz.func155,Tryz.ntmps155;go_wp2_with fail;refine (HIX.out _).mono ?_;rintro e w1 ⟨rfl,hw1⟩;subst hw1;go_wp2_with fail;go_ret2;exact ⟨rfl,Below.refl _ _⟩
  | some k =>
   rw [hf] at hvq hix;simp only at hvq hix;have hkl:=findAt_le (t:=[c]) (by simp) hf;simp only [List.length_cons,List.length_nil] at hkl;obtain ⟨E,hE⟩:∃ E,E = a + 1 + k:=⟨_,rfl⟩
   rw [<- hE] at hvq hix;rw [hix] at HIX;obtain ⟨P,hP⟩:∃ P,s.extract (a + 1) E = P:=⟨_,rfl⟩
   have hPl:P.data.toList = r.take k:=by rw [<- hP,extract_list,List.drop_take,<- hr,hE];congr 1;omega
   have zP:P.size <= 16777216:=by rw [<- toList_length,hPl,List.length_take];omega
   have HDE:=hide (fun w2=>refDecode12_any P w2 zP);rw [hPl] at HDE;rw [hvq] at hVN;injection hVN with hv3 hv4;rw [hv3,<- hX] at HDE;subst hv4;have q2:(a:Int) + 1 <= E:=by omega
   have q3:(E:Int) <= s.size:=by omega
   have q4:decide ((E:Int) < 0) = false:=decide_eq_false (by omega);have q5:wrap64 ((E:Int) + 1) = ((E + 1:Nat):Int):=by unfold wrap64;omega
   clear hc hvq hv3 hX hix hf hd hr hrl hTl zT hq hcq hla hca hPl hE hkl;rcases tc with t1 | ⟨t1,t2⟩
   all_goals
    go_enter Tryz.func155,Tryz.ntmps155;go_wp2_with fail;refine (HIX.out _).mono ?_;rintro e w1 ⟨rfl,hw1⟩;subst hw1;go_wp2_with fail;refine (HDE.out _).mono ?_;rintro e w2 ⟨rfl,hb2⟩;have HB2:=hide hb2;clear hb2;go_wp2_with fail;go_ret2;exact ⟨rfl,HB2.out⟩
end Go.Proofs.YtiejmkjpgjbodaaGreatDoor
