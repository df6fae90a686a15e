import Derived.Test.YtiejmkjpgjbodaaGreatDoorArW
namespace Go.Proofs.YtiejmkjpgjbodaaGreatDoor
open Go.RowKit
set_option linter.unusedVariables false
set_option linter.unusedSimpArgs false
set_option maxRecDepth 100000
theorem arL_grow {l:List ArV} {k:Nat} {q:ArV} {x:List UInt8} (hq:l[k]? = some q):arL (l.set k { q with h:=⟨q.h.name,q.h.attrs,q.h.text ++ x⟩ }) = arGrow (arL l) k x:=by
 apply List.ext_getElem?;intro i;have hk:k < l.length:=(List.getElem?_eq_some_iff.1 hq).1;unfold arGrow arL;rw [List.getElem?_map,List.getElem?_modify]
 by_cases hi:k = i
 ·subst hi;rw [List.getElem?_set_self hk,List.getElem?_map,hq];simp [ArV.toN]
 ·rw [List.getElem?_set_ne hi,<- List.getElem?_map];simp [hi]
set_option maxHeartbeats 8000000 in
theorem arGrow_any (B b:Nat) (r o:Value) (l:List ArV) (opn:List Nat) (W0 w:World) (h:AB B b r o l opn W0 w) (x:ByteArray) (a k:Nat) (p q:ArV) (hp:l[a]? = some p) (hopn:opn[opn.length - 1]? = some a) (hk:p.ks.getLast? = some k) (hq:l[k]? = some q) (hn:q.h.name = []) (hl:l.length <= 100000) (hks:p.ks.length <= 100000) (ho:opn.length <= 100000) (hx:q.h.text.length + x.size <= 100000000000000) :
  Calls Tryz.prog 42 #[.pointer (some ⟨b,0,none⟩),.string x] w fun e w'=>e = .returned (.tuple #[]) /\
   ∃ l',AB B b r o l' opn W0 w' /\ arL l' = arGrow (arL l) k x.data.toList:=by
 have hal:a < l.length:=(List.getElem?_eq_some_iff.1 hp).1;have hkl:k < l.length:=(List.getElem?_eq_some_iff.1 hq).1;obtain ⟨g,rc,rfl,_,_,_,_⟩:=own_form h.row (by omega)
 obtain ⟨go,oc,rfl,_,_,_,_⟩:=own_form h.opn (by
  rcases Nat.eq_zero_or_pos opn.length with e | e
  ·rw [List.length_eq_zero_iff.1 e] at hopn;simp at hopn
  ·exact e)
 rw [List.getLast?_eq_getElem?] at hk
 have hm0:0 < p.ks.length:=by
  rcases Nat.eq_zero_or_pos p.ks.length with e | e
  ·rw [List.length_eq_zero_iff.1 e] at hk;simp at hk
  ·exact e
 have hkr:=h.kids a p hp;obtain ⟨gk,kc,hkv,_,_,_,_⟩:=own_form hkr hm0;rw [hkv] at hkr;have d0:=h.c0;have d1:=h.c1;obtain ⟨_,_,_,_,d4,_⟩:=h.node hp;rw [hkv] at d4;obtain ⟨f0,_,f2,_,_,f5⟩:=h.node hq;have d6:=own_int h.opn hopn rfl;have d7:=own_int hkr hk rfl;obtain ⟨n,hn'⟩:∃ n,n = opn.length:=⟨_,rfl⟩
 have hn0:0 < n:=by
  rw [hn'];rcases Nat.eq_zero_or_pos opn.length with e | e
  ·rw [List.length_eq_zero_iff.1 e] at hopn;simp at hopn
  ·exact e
 obtain ⟨m,hm⟩:∃ m,m = p.ks.length:=⟨_,rfl⟩
 rw [<- hn'] at d1 d6;rw [<- hm] at d4 d7 hm0;have e1:((n:Int) - 1).toNat = n - 1:=by omega
 have e2:wrap64 ((n:Int) - 1) = (n:Int) - 1:=by unfold wrap64;omega
 have e3:(0:Int) <= (n:Int) - 1:=by clear e2;omega
 have e4:(n:Int) - 1 < (n:Int):=by clear e2;omega
 have i1:((m:Int) - 1).toNat = m - 1:=by omega
 have i2:wrap64 ((m:Int) - 1) = (m:Int) - 1:=by clear e2;unfold wrap64;omega
 have i3:(0:Int) <= (m:Int) - 1:=by clear e2 i2;omega
 have i4:(m:Int) - 1 < (m:Int):=by clear e2 i2;omega
 have i5:(a:Int) < (l.length:Int):=by clear e2 i2;omega
 have i6:(k:Int) < (l.length:Int):=by clear e2 i2;omega
 have i7:decide ((0:Int) < (m:Int)) = true:=decide_eq_true (by clear e2 i2;omega);obtain ⟨X,hX⟩:∃ X,X = str q.h.name:=⟨_,rfl⟩
 have q0:X.toList.isEmpty = true:=by rw [hX,str_list,hn];rfl
 obtain ⟨Y,hY⟩:∃ Y,Y = str q.h.text:=⟨_,rfl⟩
 have q1:¬ (9223372036854775807 < Y.size + x.size):=by rw [hY,str_size];clear e2 i2;omega
 rw [<- hX] at f0;rw [<- hY] at f2;have HQ:=hide hq;have HH:=hide h;have HY:=hide hY;have HN:=hide hn';clear h hp hopn hk hq hn hl hks ho hx hX hY hn' hm hkr hkv hal hkl;go_enter Tryz.func42,Tryz.ntmps42;go_wp2_with fail;go_region
 go_wp2_with fail;go_region
 go_wp2_with fail;go_region
 all_goals
  go_wp2_with fail
  have h5:=HH.out.setNode (p':={ q with h:=⟨q.h.name,q.h.attrs,q.h.text ++ x.data.toList⟩ }) HQ.out 2 (.string (Y ++ x)) (by decide) (by
   rw [HY.out,<- str_of x,<- str_append,str_of];rfl) ⟨rfl,rfl⟩ (HH.out.kids k q HQ.out) (fun j s hj hs=>HH.out.apart k j q s hj HQ.out hs) (HH.out.free k q HQ.out)
  rw [<- HN.out] at h5;have H5:=hide h5;clear h5
  (try simp only [Exit.inBlock,Exit.then]);refine bodyPost_ret (results_none rfl _ _ _) rfl ?_
  exact ⟨rfl,_,by rw [<- HN.out];exact H5.out.kept ((((Below.refl _ _).drew).drew).drew),arL_grow HQ.out⟩
set_option maxHeartbeats 8000000 in
theorem arTextPut_any (B b:Nat) (r o:Value) (l:List ArV) (opn:List Nat) (W0 w:World) (h:AB B b r o l opn W0 w) (x:ByteArray) (a:Nat) (p:ArV) (hp:l[a]? = some p) (hopn:opn[opn.length - 1]? = some a) (hl:l.length <= 100000) (hks:p.ks.length <= 100000) (ho:opn.length <= 100000)
  (hlast:p.ks = [] \/ ∃ k q,p.ks.getLast? = some k /\ l[k]? = some q /\ q.h.name ≠ []) (hrm:l.length <= 5000) :
  Calls Tryz.prog 42 #[.pointer (some ⟨b,0,none⟩),.string x] w fun e w'=>e = .returned (.tuple #[]) /\ ∃ r' l',AB B b r' o l' opn W0 w' /\ arL l' = arPut (arL l) a ⟨[],[],x.data.toList⟩:=by
 have hal:a < l.length:=(List.getElem?_eq_some_iff.1 hp).1;obtain ⟨g,rc,rfl,_,_,_,_⟩:=own_form h.row (by omega)
 obtain ⟨go,oc,rfl,_,_,_,_⟩:=own_form h.opn (by
  rcases Nat.eq_zero_or_pos opn.length with e | e
  ·rw [List.length_eq_zero_iff.1 e] at hopn;simp at hopn
  ·exact e)
 have HPUT:=hide (arPut_any B b _ _ l opn W0 w.drew.drew (h.kept (((Below.refl _ _).drew).drew)) ⟨[],[],x.data.toList⟩ (.slice none 0 0) ⟨.inl ⟨rfl,rfl⟩,fun a n c e=>(by cases e)⟩ a p hp hopn hl hks ho);rw [show str ([]:List UInt8) = (⟨#[]⟩:ByteArray) from rfl,str_of] at HPUT;have hkr:=h.kids a p hp;have d0:=h.c0;have d1:=h.c1;obtain ⟨_,_,_,_,d4,_⟩:=h.node hp;have d6:=own_int h.opn hopn rfl;obtain ⟨n,hn'⟩:∃ n,n = opn.length:=⟨_,rfl⟩
 have hn0:0 < n:=by
  rw [hn'];rcases Nat.eq_zero_or_pos opn.length with e | e
  ·rw [List.length_eq_zero_iff.1 e] at hopn;simp at hopn
  ·exact e
 have HN:=hide hn';rw [<- hn'] at d1 d6;have e1:((n:Int) - 1).toNat = n - 1:=by omega
 have e2:wrap64 ((n:Int) - 1) = (n:Int) - 1:=by unfold wrap64;omega
 have e3:(0:Int) <= (n:Int) - 1:=by clear e2;omega
 have e4:(n:Int) - 1 < (n:Int):=by clear e2;omega
 have i5:(a:Int) < (l.length:Int):=by clear e2;omega
 have HH:=hide h;have HLL:=hide hl;have i8:decide ((l.length:Int) <= 5000) = true:=decide_eq_true (by clear e2;omega);clear hrm;rcases hlast with hk0 | ⟨k,q,hk,hq,hn⟩
 ·obtain ⟨kA,kc,hkv,_,_⟩:=own_slice hkr;rw [hk0,List.length_nil] at hkv;rw [hkv] at d4;have i7:decide ((0:Int) < (0:Int)) = false:=by decide
  clear h hp hopn hl hks ho hn' hkr hkv hk0 hal;go_enter Tryz.func42,Tryz.ntmps42;go_wp2_with fail;go_region
  go_wp2_with fail;go_region
  go_wp2_with fail;refine HPUT.out.mono ?_;rintro e w1 ⟨rfl,-,r',l',h1,h2⟩;have H1:=hide h1;have H2:=hide h2;clear h1 h2;go_wp2_with fail;go_end0;exact ⟨rfl,r',l',H1.out,H2.out⟩
 ·rw [List.getLast?_eq_getElem?] at hk;have hkl:k < l.length:=(List.getElem?_eq_some_iff.1 hq).1
  have hm0:0 < p.ks.length:=by
   rcases Nat.eq_zero_or_pos p.ks.length with e | e
   ·rw [List.length_eq_zero_iff.1 e] at hk;simp at hk
   ·exact e
  obtain ⟨gk,kc,hkv,_,_,_,_⟩:=own_form hkr hm0;rw [hkv] at hkr d4;obtain ⟨f0,_,f2,_,_,f5⟩:=h.node hq;have d7:=own_int hkr hk rfl;obtain ⟨m,hm⟩:∃ m,m = p.ks.length:=⟨_,rfl⟩
  rw [<- hm] at d4 d7 hm0;have i1:((m:Int) - 1).toNat = m - 1:=by clear e2;omega
  have i2:wrap64 ((m:Int) - 1) = (m:Int) - 1:=by clear e2;unfold wrap64;omega
  have i3:(0:Int) <= (m:Int) - 1:=by clear e2 i2;omega
  have i4:(m:Int) - 1 < (m:Int):=by clear e2 i2;omega
  have i6:(k:Int) < (l.length:Int):=by clear e2 i2;omega
  have i7:decide ((0:Int) < (m:Int)) = true:=decide_eq_true (by clear e2 i2;omega);obtain ⟨X,hX⟩:∃ X,X = str q.h.name:=⟨_,rfl⟩
  have q0:X.toList.isEmpty = false:=by rw [hX,str_list];cases hz:q.h.name with | nil=>exact absurd hz hn | cons _ _=>rfl
  rw [<- hX] at f0;clear h hp hopn hk hq hn hl hks ho hX hn' hm hkr hkv hal hkl f2;go_enter Tryz.func42,Tryz.ntmps42;go_wp2_with fail;go_region
  go_wp2_with fail;go_region
  go_wp2_with fail;refine HPUT.out.mono ?_;rintro e w1 ⟨rfl,-,r',l',h1,h2⟩;have H1:=hide h1;have H2:=hide h2;clear h1 h2;go_wp2_with fail;go_end0;exact ⟨rfl,r',l',H1.out,H2.out⟩
set_option maxHeartbeats 8000000 in
theorem arTextNo_any (B b:Nat) (r o:Value) (l:List ArV) (opn:List Nat) (W0 w:World) (h:AB B b r o l opn W0 w) (x:ByteArray) (a:Nat) (p:ArV) (hp:l[a]? = some p) (hopn:opn[opn.length - 1]? = some a) (hl:l.length <= 100000) (hks:p.ks.length <= 100000) (ho:opn.length <= 100000)
  (hlast:p.ks = [] \/ ∃ k q,p.ks.getLast? = some k /\ l[k]? = some q /\ q.h.name ≠ []) (hrm:5000 < l.length) :
  Calls Tryz.prog 42 #[.pointer (some ⟨b,0,none⟩),.string x] w fun e w'=>e = .returned (.tuple #[]) /\ AB B b r o l opn W0 w':=by
 have hal:a < l.length:=(List.getElem?_eq_some_iff.1 hp).1;obtain ⟨g,rc,rfl,_,_,_,_⟩:=own_form h.row (by omega)
 obtain ⟨go,oc,rfl,_,_,_,_⟩:=own_form h.opn (by
  rcases Nat.eq_zero_or_pos opn.length with e | e
  ·rw [List.length_eq_zero_iff.1 e] at hopn;simp at hopn
  ·exact e)
 have HPUT:=hide (arPut_any B b _ _ l opn W0 w.drew.drew (h.kept (((Below.refl _ _).drew).drew)) ⟨[],[],x.data.toList⟩ (.slice none 0 0) ⟨.inl ⟨rfl,rfl⟩,fun a n c e=>(by cases e)⟩ a p hp hopn hl hks ho);rw [show str ([]:List UInt8) = (⟨#[]⟩:ByteArray) from rfl,str_of] at HPUT;have hkr:=h.kids a p hp;have d0:=h.c0;have d1:=h.c1;obtain ⟨_,_,_,_,d4,_⟩:=h.node hp;have d6:=own_int h.opn hopn rfl;obtain ⟨n,hn'⟩:∃ n,n = opn.length:=⟨_,rfl⟩
 have hn0:0 < n:=by
  rw [hn'];rcases Nat.eq_zero_or_pos opn.length with e | e
  ·rw [List.length_eq_zero_iff.1 e] at hopn;simp at hopn
  ·exact e
 have HN:=hide hn';rw [<- hn'] at d1 d6;have e1:((n:Int) - 1).toNat = n - 1:=by omega
 have e2:wrap64 ((n:Int) - 1) = (n:Int) - 1:=by unfold wrap64;omega
 have e3:(0:Int) <= (n:Int) - 1:=by clear e2;omega
 have e4:(n:Int) - 1 < (n:Int):=by clear e2;omega
 have i5:(a:Int) < (l.length:Int):=by clear e2;omega
 have HH:=hide h;have HLL:=hide hl;have i8:decide ((l.length:Int) <= 5000) = false:=decide_eq_false (by clear e2;omega);clear hrm;rcases hlast with hk0 | ⟨k,q,hk,hq,hn⟩
 ·obtain ⟨kA,kc,hkv,_,_⟩:=own_slice hkr;rw [hk0,List.length_nil] at hkv;rw [hkv] at d4;have i7:decide ((0:Int) < (0:Int)) = false:=by decide
  clear h hp hopn hl hks ho hn' hkr hkv hk0 hal;go_enter Tryz.func42,Tryz.ntmps42;go_wp2_with fail;go_region
  go_wp2_with fail;go_region
  go_wp2_with fail;go_end0;exact ⟨rfl,HH.out.kept ⟨rfl,rfl,rfl,Nat.le_refl _,fun _ _=>rfl⟩⟩
 ·rw [List.getLast?_eq_getElem?] at hk;have hkl:k < l.length:=(List.getElem?_eq_some_iff.1 hq).1
  have hm0:0 < p.ks.length:=by
   rcases Nat.eq_zero_or_pos p.ks.length with e | e
   ·rw [List.length_eq_zero_iff.1 e] at hk;simp at hk
   ·exact e
  obtain ⟨gk,kc,hkv,_,_,_,_⟩:=own_form hkr hm0;rw [hkv] at hkr d4;obtain ⟨f0,_,f2,_,_,f5⟩:=h.node hq;have d7:=own_int hkr hk rfl;obtain ⟨m,hm⟩:∃ m,m = p.ks.length:=⟨_,rfl⟩
  rw [<- hm] at d4 d7 hm0;have i1:((m:Int) - 1).toNat = m - 1:=by clear e2;omega
  have i2:wrap64 ((m:Int) - 1) = (m:Int) - 1:=by clear e2;unfold wrap64;omega
  have i3:(0:Int) <= (m:Int) - 1:=by clear e2 i2;omega
  have i4:(m:Int) - 1 < (m:Int):=by clear e2 i2;omega
  have i6:(k:Int) < (l.length:Int):=by clear e2 i2;omega
  have i7:decide ((0:Int) < (m:Int)) = true:=decide_eq_true (by clear e2 i2;omega);obtain ⟨X,hX⟩:∃ X,X = str q.h.name:=⟨_,rfl⟩
  have q0:X.toList.isEmpty = false:=by rw [hX,str_list];cases hz:q.h.name with | nil=>exact absurd hz hn | cons _ _=>rfl
  rw [<- hX] at f0;clear h hp hopn hk hq hn hl hks ho hX hn' hm hkr hkv hal hkl f2;go_enter Tryz.func42,Tryz.ntmps42;go_wp2_with fail;go_region
  go_wp2_with fail;go_region
  go_wp2_with fail;go_end0;exact ⟨rfl,HH.out.kept ⟨rfl,rfl,rfl,Nat.le_refl _,fun _ _=>rfl⟩⟩
end Go.Proofs.YtiejmkjpgjbodaaGreatDoor
