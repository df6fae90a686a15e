import Derived.Test.YtiejmkjpgjbodaaGreatDoorBaseQ
import Derived.Test.YtiejmkjpgjbodaaGreatDoorBaseP
namespace Go.Proofs.YtiejmkjpgjbodaaGreatDoor
open Go.RowKit
set_option linter.unusedVariables false
set_option linter.unusedSimpArgs false
set_option maxRecDepth 100000
def allK (f:NdH -> Bool) (l:List (NdH × Tr)):Bool:=(Tr.of l).all f
theorem allK_append (f:NdH -> Bool) (a b:List (NdH × Tr)):allK f (a ++ b) = (allK f a && allK f b):=by
 induction a with
 | nil=>rfl
 | cons p r ih=>obtain ⟨h,k⟩:=p;simp only [allK,List.cons_append,Tr.of,Tr.all] at ih ⊢;rw [ih,Bool.and_assoc,Bool.and_assoc]
def AllS (f:NdH -> Bool) (st:List PartL):Prop:=∀ p ∈ st,allK f p.kids = true /\ f ⟨p.name,p.attrs,[]⟩ = true
section
variable {f:NdH -> Bool} (hf:∀ x,f ⟨[],[],x⟩ = true)
include hf
theorem all_endText {p:PartL} (h:allK f p.kids = true):allK f (endTextL p).kids = true:=by
 unfold endTextL;split
 ·exact h
 ·show allK f (p.kids ++ [textNd p.tail]) = true
  rw [allK_append,h];simp [allK,textNd,Tr.of,Tr.all,hf]
theorem all_closeTop {st:List PartL} (h:AllS f st):AllS f (closeTop st):=by
 match st,h with
 | [],h=>exact h
 | [p],h=>exact h
 | p :: q :: r,h =>
  have hp:=h p (List.mem_cons_self ..);have hq:=h q (List.mem_cons_of_mem _ (List.mem_cons_self ..));intro x hx;rcases List.mem_cons.1 hx with rfl | hx
  ·refine ⟨?_,hq.2⟩;show allK f (q.kids ++ [(endTextL p).node]) = true
   rw [allK_append,hq.1];have h1:=all_endText hf (p:=p) hp.1;have h2:f ⟨(endTextL p).name,(endTextL p).attrs,[]⟩ = true:=by rw [(endText_head p).1,(endText_head p).2];exact hp.2
   unfold allK at h1;simp [allK,PartL.node,Tr.of,Tr.all,h1,h2]
  ·exact h x (List.mem_cons_of_mem _ (List.mem_cons_of_mem _ hx))
theorem all_closeN (n:Nat) {st:List PartL} (h:AllS f st):AllS f (closeN n st):=by
 induction n generalizing st with
 | zero=>exact h
 | succ n ih=>exact ih (all_closeTop hf h)
theorem all_closeAll (is:List UInt8 -> Bool) (k:Nat) {st:List PartL} (h:AllS f st):AllS f (closeAll is k st):=by
 induction k generalizing st with
 | zero=>exact h
 | succ k ih =>
  rw [closeAll];split
  ·exact h
  ·exact ih (all_closeN hf _ h)
theorem all_put (t:TokL) (n:Nat) {st:List PartL} (h:AllS f st) (ht:f ⟨t.name,t.attrs,[]⟩ = true):AllS f (putP t st n).1:=by
 match st,h with
 | [],h=>exact h
 | p :: r,h =>
  have hp:=h p (List.mem_cons_self ..);have hr:∀ x ∈ r,_:=fun x hx=>h x (List.mem_cons_of_mem _ hx)
  have h1:=all_endText hf (p:=p) hp.1;have h2:f ⟨(endTextL p).name,(endTextL p).attrs,[]⟩ = true:=by rw [(endText_head p).1,(endText_head p).2];exact hp.2
  rw [putP_cons];split
  ·intro x hx;rcases List.mem_cons.1 hx with rfl | hx
   ·refine ⟨?_,h2⟩;show allK f ((endTextL p).kids ++ [(⟨t.name,t.attrs,[]⟩,Tr.nil)]) = true
    rw [allK_append,h1];simp [allK,Tr.of,Tr.all,ht]
   ·exact hr x hx
  ·intro x hx;rcases List.mem_cons.1 hx with rfl | hx
   ·exact ⟨rfl,ht⟩
   ·rcases List.mem_cons.1 hx with rfl | hx
    ·exact ⟨h1,h2⟩
    ·exact hr x hx
theorem all_tok {s:BsL} {t:TokL} (h:AllS f s.1) (ht:t.kind = 2 -> f ⟨t.name,t.attrs,[]⟩ = true):AllS f (tokB s t).1:=by
 obtain ⟨st,n⟩:=s;unfold tokB;split
 ·match st,h with
  | [],h=>exact h
  | p :: r,h =>
   have hk:∀ x,AllS f ({ p with tail:=x } :: r):=fun x y hy=>by
    rcases List.mem_cons.1 hy with rfl | hy
    ·exact h p (List.mem_cons_self ..)
    ·exact h y (List.mem_cons_of_mem _ hy)
   rw [charsP_cons];split
   ·split
    ·exact h
    ·exact hk _
   ·exact hk _
 ·split
  ·rename_i _ hk;unfold startP;have:=all_closeAll hf (closesB t.name) st.length h;split
   ·exact this
   ·exact all_put hf _ _ this (ht hk)
  ·split
   ·unfold endP;split
    ·exact h
    ·exact all_closeN hf _ h
   ·exact h
theorem all_fold (L:List TokL) {s:BsL} (h:AllS f s.1) (ht:∀ t ∈ L,t.kind = 2 -> f ⟨t.name,t.attrs,[]⟩ = true):AllS f (L.foldl tokB s).1:=by
 induction L generalizing s with
 | nil=>exact h
 | cons t r ih=>exact ih (all_tok hf h (ht t (List.mem_cons_self ..))) (fun u hu=>ht u (List.mem_cons_of_mem _ hu))
theorem build_all (L:List TokL) (ht:∀ t ∈ L,t.kind = 2 -> f ⟨t.name,t.attrs,[]⟩ = true):(buildP L).all f = true:=by
 have h:=all_fold hf L (s:=([rootL],0)) (fun p hp=>by obtain rfl:=List.mem_singleton.1 hp;exact ⟨rfl,hf []⟩) ht;unfold buildP endTree;have h2:=all_closeN hf ((L.foldl tokB ([rootL],0)).1.length - 1) h;split
 ·rename_i p r e;have:=h2 p (by rw [e];exact List.mem_cons_self ..);exact all_endText hf this.1
 ·rfl
end
theorem scanE_forms (s:ByteArray):FormsL (scanL decE [] [] s.data.toList):=(scan_forms decE _ s.data.toList [] [] (Nat.le_refl _) ⟨fun t h=>(by cases h),fun i a b h=>by simp at h⟩ (fun t h=>by simp at h)).1
theorem build_few (s:ByteArray):(buildP (scanL decE [] [] s.data.toList)).all attrsFew = true:=by
 refine build_all (f:=attrsFew) (fun x=>by simp [attrsFew]) _ (fun t ht _=>?_);have:=((scanE_forms s).1 t ht).2.2.1;simp only [attrsFew,decide_eq_true_eq];omega
end Go.Proofs.YtiejmkjpgjbodaaGreatDoor
