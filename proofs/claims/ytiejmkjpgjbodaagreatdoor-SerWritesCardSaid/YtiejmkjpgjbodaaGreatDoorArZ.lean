import Derived.Test.YtiejmkjpgjbodaaGreatDoorArX
import Derived.Test.YtiejmkjpgjbodaaGreatDoorArY
namespace Go.Proofs.YtiejmkjpgjbodaaGreatDoor
open Go.RowKit
set_option linter.unusedVariables false
set_option linter.unusedSimpArgs false
set_option maxRecDepth 100000
theorem kids_bound {p:PartL} {r:List PartL} {n:Nat} (h:OkS (p :: r,n)):p.kids.length <= 5000:=by
 have h1:p.kids.length <= p.wt:=Nat.le_trans (kidsW_len _) (Nat.le_add_right _ _)
 have h2:p.wt <= stW (p :: r):=by
  cases r with
  | nil=>exact Nat.le_refl _
  | cons q r=>rw [stW_cons];omega
 have h3:=h.2.1;have h4:=h.2.2.1;simp only at h3 h4;omega
theorem arLen {l:List ArV} {opn:List Nat} {s:BsL} (h:ArOK (arL l) opn s):l.length = s.2 + 1:=by rw [<- arL_len];exact h.len
theorem opnOK_of {l:List ArV} {opn:List Nat} {s:BsL} (h:ArOK (arL l) opn s):OpnOK l opn:=by
 intro i hi;obtain ⟨tl,_,_,h3,_⟩:=h.hot;have h9:=h3 _ (List.getElem_mem hi);rw [arL_len] at h9;exact ⟨opn[i],l[opn[i]],List.getElem?_eq_getElem hi,List.getElem?_eq_getElem h9⟩
theorem ar_find {l:List ArV} {opn:List Nat} {s:BsL} (h:ArOK (arL l) opn s) (is:List UInt8 -> Bool) {m:Nat} (hm:opn.length = m + 1) :
  findP is s.1 = if backF is (nmA l opn) m = 0 then none else some (m + 1 - backF is (nmA l opn) m):=by
 have hd:=h.dep
 have hb:=back_find is (nmA l opn) s.1 (fun i hi=>by
  obtain ⟨o,q,ho,hq⟩:=opnOK_of h i (by omega);have hp:∃ p,s.1[s.1.length - 1 - i]? = some p:=⟨_,List.getElem?_eq_getElem (by omega)⟩
  obtain ⟨p,hp⟩:=hp;refine ⟨p,hp,?_⟩;obtain ⟨ls,h1⟩:=h.node ho hp;obtain ⟨q',h2,h3,_⟩:=arL_at h1;rw [hq] at h2;injection h2 with h2;subst h2;rw [nmA_at ho hq,h3])
 rw [show s.1.length - 1 = m by omega,show s.1.length = m + 1 by omega] at hb;exact hb
theorem arChars_any (B b:Nat) (r o:Value) (l:List ArV) (opn:List Nat) (W0 w:World) (h:AB B b r o l opn W0 w) (p:PartL) (rr:List PartL) (n:Nat) (hOK:ArOK (arL l) opn (p :: rr,n)) (hS:OkS (p :: rr,n)) (x:ByteArray) (hx:x.data.toList ≠ []) (htl:p.tail.length + x.size <= 100000000000000) :
  Calls Tryz.prog 42 #[.pointer (some ⟨b,0,none⟩),.string x] w fun e w'=>e = .returned (.tuple #[]) /\
   ∃ r' l',AB B b r' o l' opn W0 w' /\ ArOK (arL l') opn (charsP x.data.toList (p :: rr,n)):=by
 have hlen:=arLen hOK;have hfew:=hOK.few;have hdep:=hOK.dep;have hkb:=kids_bound hS;have hst:=hS.2.2.2;simp only at hlen hfew;simp only at hdep hst
 by_cases hp:p.tail = []
 ·obtain ⟨a,tl,ks,ha,hal,hat,hks,htl2⟩:=hOK.inner
  have e:tl = []:=by
   rcases htl2 with ⟨_,e⟩ | ⟨t,e,_⟩
   ·exact e
   ·exact absurd hp e
  subst e;rw [List.append_nil] at hat hks;obtain ⟨q,hq,q1,q2⟩:=arL_at hat;have hkl:ks.length = p.kids.length:=by rw [hks.len,Tr.len_of]
  have hlast:q.ks = [] \/ ∃ k q',q.ks.getLast? = some k /\ l[k]? = some q' /\ q'.h.name ≠ []:=by
   rw [q2];cases hg:ks.getLast? with
   | none=>exact .inl (List.getLast?_eq_none_iff.1 hg)
   | some k =>
    obtain ⟨z,ls,z1,z2⟩:=hks.last hg;obtain ⟨q',hq',q3,_⟩:=arL_at z2;exact .inr ⟨k,q',rfl,hq',by rw [q3];exact hOK.last p rr rfl z z1⟩
  rcases Nat.lt_or_ge 5000 l.length with hf | hf
  ·refine (arTextNo_any B b r o l opn W0 w h x a q hq ha (by omega) (by rw [q2];omega) (by omega) hlast hf).mono fun e w' ⟨h1,h2⟩=>⟨h1,r,l,h2,?_⟩
   rw [charsP_cons,if_pos hp,if_pos (by omega)];exact hOK
  ·refine (arTextPut_any B b r o l opn W0 w h x a q hq ha (by omega) (by rw [q2];omega) (by omega) hlast hf).mono fun e w' ⟨h1,r',l',h2,h3⟩=>⟨h1,r',l',h2,?_⟩
   rw [h3,charsP_cons,if_pos hp,if_neg (by omega)];exact arOK_text hOK hp hx (by omega) ha
 ·obtain ⟨a,t,ks,ha,hal,hat,hkl,htt,hgr⟩:=hOK.growing hp;obtain ⟨q,hq,q1,q2⟩:=arL_at hat;obtain ⟨q',hq',q3,q4⟩:=arL_at htt;refine (arGrow_any B b r o l opn W0 w h x a t q q' hq ha (by rw [q2];simp) hq' (by rw [q3]) (by omega) (by rw [q2,List.length_append];simp;omega) (by omega) (by rw [q3];exact htl)).mono fun e w' ⟨h1,l',h2,h3⟩=>⟨h1,r,l',h2,?_⟩
  rw [h3,charsP_cons,if_neg hp];exact hgr _
theorem arEndP_any (B b:Nat) (r o:Value) (l:List ArV) (opn:List Nat) (W0 w:World) (h:AB B b r o l opn W0 w) (s:BsL) (hOK:ArOK (arL l) opn s) (hS:OkS s) (x:ByteArray) :
  Calls Tryz.prog 44 #[.pointer (some ⟨b,0,none⟩),.string x] w fun e w'=>e = .returned (.tuple #[]) /\
   ∃ o' opn',AB B b r o' l opn' W0 w' /\ ArOK (arL l) opn' (endP x.data.toList s):=by
 have hlen:=arLen hOK;have hfew:=hOK.few;have hdep:=hOK.dep;have hst:=hS.2.2.2;have hne:0 < s.1.length:=List.length_pos_iff.2 hOK.ne;obtain ⟨m,hm⟩:∃ m,opn.length = m + 1:=⟨opn.length - 1,by omega⟩
 have hf:=ar_find hOK (fun o=>o == x.data.toList) hm;refine (arEnd_any B b r o l opn W0 w h x m (opnOK_of hOK) hm (by omega) (by omega)).mono fun e w' ⟨h1,h2⟩=>⟨h1,?_⟩
 unfold EndR at h2;unfold endP;rw [hf]
 by_cases hz:backF (fun o=>o == x.data.toList) (nmA l opn) m = 0
 ·rw [if_pos hz] at h2 ⊢;exact ⟨o,opn,h2,hOK⟩
 ·rw [if_neg hz] at h2 ⊢;obtain ⟨o',h2⟩:=h2;have hle:=backF_le (fun o=>o == x.data.toList) (nmA l opn) m;refine ⟨o',_,h2,?_⟩;obtain ⟨st,n⟩:=s;have:=arOK_closeN (m + 1 - backF (fun o=>o == x.data.toList) (nmA l opn) m) opn st hOK (by simp only at hdep;omega);rw [show opn.length - (m + 1 - backF (fun o=>o == x.data.toList) (nmA l opn) m) = backF (fun o=>o == x.data.toList) (nmA l opn) m by omega] at this;exact this
end Go.Proofs.YtiejmkjpgjbodaaGreatDoor
