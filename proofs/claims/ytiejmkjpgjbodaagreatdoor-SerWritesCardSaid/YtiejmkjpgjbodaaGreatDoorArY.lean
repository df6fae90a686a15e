import Derived.Test.YtiejmkjpgjbodaaGreatDoorArM
import Derived.Test.YtiejmkjpgjbodaaGreatDoorBaseS
import Derived.Test.YtiejmkjpgjbodaaGreatDoorRef14V
import Derived.BigRegion
import Derived.IntWalk
namespace Go.Proofs.YtiejmkjpgjbodaaGreatDoor
open Go.RowKit
set_option linter.unusedVariables false
set_option linter.unusedSimpArgs false
set_option maxRecDepth 100000
def nmA (l:List ArV) (opn:List Nat) (i:Nat):List UInt8:=match opn[i]? with
  | some o=>(match l[o]? with
    | some p=>p.h.name
    | none=>[])
  | none=>[]
theorem nmA_at {l:List ArV} {opn:List Nat} {i o:Nat} {p:ArV} (ho:opn[i]? = some o) (hp:l[o]? = some p):nmA l opn i = p.h.name:=by
 unfold nmA;rw [ho];simp only [hp]
def EndR (B b:Nat) (r o:Value) (l:List ArV) (opn:List Nat) (W0:World) (z:Nat) (w':World):Prop:=if z = 0 then AB B b r o l opn W0 w' else ∃ o',AB B b r o' l (opn.take z) W0 w'
def OpnOK (l:List ArV) (opn:List Nat):Prop:=∀ i,i < opn.length -> ∃ o p,opn[i]? = some o /\ l[o]? = some p
set_option maxHeartbeats 16000000 in
theorem arShut_any (B b:Nat) (r o:Value) (l:List ArV) (opn:List Nat) (W0 w:World) (h:AB B b r o l opn W0 w) (x:ByteArray) (m:Nat) (hok:OpnOK l opn) (hlen:opn.length = m + 1) (hm:m <= 100000) (hl:l.length <= 100000) :
  Calls Tryz.prog 94 #[.pointer (some ⟨b,0,none⟩),.string x] w fun e w'=>e = .returned (.int .i64 (backF (closesB x.data.toList) (nmA l opn) m:Nat)) /\ Below w.heap.size w w':=by
 have hl0:0 < l.length:=by
  obtain ⟨o1,p1,_,hp1⟩:=hok 0 (by omega);have:=(List.getElem?_eq_some_iff.1 hp1).1;omega
 obtain ⟨g,rc,rfl,-,-,-,-⟩:=own_form h.row hl0;obtain ⟨go,oc,rfl,-,-,-,-⟩:=own_form h.opn (by omega);have d1:=h.c1;rw [hlen] at d1;have HH:=hide h;have HOK:=hide hok;have HLEN:=hide hlen;have s1:wrap64 (m:Int) = (m:Int):=by unfold wrap64;omega
 have HM:=hide hm;clear h hok hl0 hlen hm;go_enter Tryz.func94,Tryz.ntmps94;go_wp2_with fail;rw [s1];go_loopw [5] (fun iv wr=>∃ k:Nat,k <= m /\ iv = .int .i64 k /\ Hid (backF (closesB x.data.toList) (nmA l opn) m = backF (closesB x.data.toList) (nmA l opn) k) /\ Hid (Below w.heap.size w wr)) (fun iv _=>(intOf iv).toNat)
 case atStart=>exact ⟨m,Nat.le_refl _,rfl,hide rfl,hide (Below.refl _ _)⟩
 case round =>
  obtain ⟨k,hk,rfl,HF,HB⟩:=hrel;cases k with
  | zero =>
   go_wp2_with fail;go_ret;exact ⟨by rw [HF.out];rfl,HB.out⟩
  | succ j =>
   obtain ⟨o1,p1,ho1,hp1⟩:=HOK.out (j + 1) (by have:=HLEN.out;clear s1;omega);have hh:=HH.out.kept HB.out;have c0:=hh.c0;have c1:=hh.c1;have c2:=own_int hh.opn ho1 rfl;obtain ⟨c3,_,_,_,_,_⟩:=hh.node hp1;have hol:o1 < l.length:=(List.getElem?_eq_some_iff.1 hp1).1;rw [HLEN.out] at c1;have hnm:=nmA_at ho1 hp1;obtain ⟨X,hX⟩:∃ X,X = str p1.h.name:=⟨_,rfl⟩
   have hXl:X.data.toList = nmA l opn (j + 1):=by rw [hX,str_toList,hnm]
   rw [<- hX] at c3;have HXL:=hide hXl;have i1:(o1:Int) < (l.length:Int):=by clear s1;omega
   have i2:(j:Int) + 1 < (m:Int) + 1:=by clear s1;omega
   have i3:((j:Int) + 1).toNat = j + 1:=by clear s1;omega
   have i4:(0:Int) < (j:Int) + 1:=by clear s1;omega
   have i5:(0:Int) <= (j:Int) + 1:=by clear s1;omega
   have i6:wrap64 (j:Int) = (j:Int):=by clear s1 i3;have:=HM.out;unfold wrap64;omega
   have HCL:Hid (∀ w',Calls Tryz.prog 136 #[.string x,.string X] w' fun e w''=>e = .returned (.bool (closesB x.data.toList X.data.toList)) /\ w' = w''):=hide (fun w'=>rcloses14_any x X w');have HWL:Hid (∀ w',Calls Tryz.prog 95 #[.string X] w' fun e w''=>e = .returned (.bool (wallB X.data.toList)) /\ w' = w''):=hide (fun w'=>rwall14_any X w');clear hh hnm hX hXl ho1 hp1 hol hl;go_wp2_with fail;go_region
   go_wp2_with fail;refine (HCL.out _).mono ?_;rintro e w1 ⟨rfl,rfl⟩;cases hc:closesB x.data.toList X.data.toList with
   | true =>
    have HE:Hid (backF (closesB x.data.toList) (nmA l opn) (j + 1) = j + 1):=hide (by rw [backF,if_pos (by rw [<- HXL.out];exact hc)]);clear hc;go_wp2_with fail;go_ret;exact ⟨by rw [HF.out,HE.out];rfl,HB.out.drew⟩
   | false =>
    go_wp2_with fail;refine (HWL.out _).mono ?_;rintro e w2 ⟨rfl,rfl⟩;cases hw:wallB X.data.toList with
    | true =>
     have HE:Hid (backF (closesB x.data.toList) (nmA l opn) (j + 1) = 0):=hide (by rw [backF,if_neg (by rw [<- HXL.out,hc];decide),if_pos (by rw [<- HXL.out];exact hw)]);clear hc hw;go_wp2_with fail;go_ret;exact ⟨by rw [HF.out,HE.out];rfl,HB.out.drew⟩
    | false =>
     have HE:Hid (backF (closesB x.data.toList) (nmA l opn) (j + 1) = backF (closesB x.data.toList) (nmA l opn) j):=hide (by rw [backF,if_neg (by rw [<- HXL.out,hc];decide),if_neg (by rw [<- HXL.out,hw];decide)]);clear hc hw;go_wp2_with fail;go_roundw
     case rel=>exact ⟨j,by clear s1 i6;omega,by rw [i6],hide (by rw [HF.out,HE.out]),hide HB.out.drew⟩
     case measure=>rw [i6];clear s1 i6 i3;(try simp [intOf]);(try omega)
set_option maxHeartbeats 16000000 in
theorem arEnd_any (B b:Nat) (r o:Value) (l:List ArV) (opn:List Nat) (W0 w:World) (h:AB B b r o l opn W0 w) (x:ByteArray) (m:Nat) (hok:OpnOK l opn) (hlen:opn.length = m + 1) (hm:m <= 100000) (hl:l.length <= 100000) :
  Calls Tryz.prog 44 #[.pointer (some ⟨b,0,none⟩),.string x] w fun e w'=>e = .returned (.tuple #[]) /\ EndR B b r o l opn W0 (backF (fun o=>o == x.data.toList) (nmA l opn) m) w':=by
 have hl0:0 < l.length:=by
  obtain ⟨o1,p1,_,hp1⟩:=hok 0 (by omega);have:=(List.getElem?_eq_some_iff.1 hp1).1;omega
 obtain ⟨g,rc,rfl,-,-,-,-⟩:=own_form h.row hl0;obtain ⟨go,oc,rfl,-,-,-,-⟩:=own_form h.opn (by omega);have d1:=h.c1;rw [hlen] at d1;have HH:=hide h;have HOK:=hide hok;have HLEN:=hide hlen;have s1:wrap64 (m:Int) = (m:Int):=by unfold wrap64;omega
 have HM:=hide hm;clear h hok hl0 hlen hm;go_enter Tryz.func44,Tryz.ntmps44;go_wp2_with fail;rw [s1];go_loopw [4] (fun iv wr=>∃ k:Nat,k <= m /\ iv = .int .i64 k /\ Hid (backF (fun o=>o == x.data.toList) (nmA l opn) m = backF (fun o=>o == x.data.toList) (nmA l opn) k) /\ Hid (Below w.heap.size w wr)) (fun iv _=>(intOf iv).toNat)
 case atStart=>exact ⟨m,Nat.le_refl _,rfl,hide rfl,hide (Below.refl _ _)⟩
 case round =>
  obtain ⟨k,hk,rfl,HF,HB⟩:=hrel;cases k with
  | zero =>
   go_wp2_with fail;go_end0;rw [HF.out];exact ⟨rfl,by rw [show backF (fun o=>o == x.data.toList) (nmA l opn) 0 = 0 from rfl];unfold EndR;rw [if_pos rfl];exact HH.out.kept HB.out⟩
  | succ j =>
   obtain ⟨o1,p1,ho1,hp1⟩:=HOK.out (j + 1) (by have:=HLEN.out;clear s1;omega);have hh:=HH.out.kept HB.out;have c0:=hh.c0;have c1:=hh.c1;have c2:=own_int hh.opn ho1 rfl;obtain ⟨c3,_,_,_,_,_⟩:=hh.node hp1;have hol:o1 < l.length:=(List.getElem?_eq_some_iff.1 hp1).1;rw [HLEN.out] at c1;have hnm:=nmA_at ho1 hp1;obtain ⟨X,hX⟩:∃ X,X = str p1.h.name:=⟨_,rfl⟩
   have hXl:X.data.toList = nmA l opn (j + 1):=by rw [hX,str_toList,hnm]
   rw [<- hX] at c3;have HXL:=hide hXl;have i1:(o1:Int) < (l.length:Int):=by clear s1;omega
   have i2:(j:Int) + 1 < (m:Int) + 1:=by clear s1;omega
   have i3:((j:Int) + 1).toNat = j + 1:=by clear s1;omega
   have i4:(0:Int) < (j:Int) + 1:=by clear s1;omega
   have i5:(0:Int) <= (j:Int) + 1:=by clear s1;omega
   have i6:wrap64 (j:Int) = (j:Int):=by clear s1 i3;have:=HM.out;unfold wrap64;omega
   have c0f:=hh.f 1
   have c4:(j + 1:Nat) <= oc:=by
    obtain ⟨_,_,hv,hv2,_⟩:=own_slice hh.opn;injection hv with _ _ hv;subst hv;have:=HLEN.out;clear s1 i6;omega
   have i7:(j:Int) + 1 <= (oc:Int):=by clear s1 i6;omega
   have HWL:Hid (∀ w',Calls Tryz.prog 95 #[.string X] w' fun e w''=>e = .returned (.bool (wallB X.data.toList)) /\ w' = w''):=hide (fun w'=>rwall14_any X w');clear hh hnm hX hXl ho1 hp1 hol hl;cases hc:(X.data.toList == x.data.toList) with
   | true =>
    have q0:(X.toList == x.toList) = true:=by rw [bytes_list,bytes_list];exact hc
    have HE:Hid (backF (fun o=>o == x.data.toList) (nmA l opn) (j + 1) = j + 1):=hide (by rw [backF,if_pos (by rw [<- HXL.out];exact hc)]);clear hc;go_wp2_with fail;go_region
    go_wp2_with fail;have hh2:=HH.out.kept HB.out;have htk:=own_take (m:=j + 1) hh2.opn rfl (by have:=HLEN.out;clear s1 i6;omega);have hs:=hh2.setOpen (o':=.slice (some ⟨go,0,none⟩) (opn.take (j + 1)).length oc) ⟨rfl,rfl,rfl,Nat.le_refl _,fun _ _ _=>rfl⟩ htk (.inl rfl);rw [List.length_take,Nat.min_eq_left (by have:=HLEN.out;clear s1 i6;omega)] at hs;have HS:=hide hs;clear hs htk hh2
    (try simp only [Exit.inBlock,Exit.then]);refine bodyPost_ret (results_none rfl _ _ _) rfl ?_
    refine ⟨rfl,?_⟩;rw [HF.out,HE.out];unfold EndR;rw [if_neg (Nat.succ_ne_zero j)];exact ⟨_,HS.out.kept (Below.refl _ _).drew⟩
   | false =>
    have q0:(X.toList == x.toList) = false:=by rw [bytes_list,bytes_list];exact hc
    go_wp2_with fail;go_region
    go_wp2_with fail;refine (HWL.out _).mono ?_;rintro e w2 ⟨rfl,rfl⟩;cases hw:wallB X.data.toList with
    | true =>
     have HE:Hid (backF (fun o=>o == x.data.toList) (nmA l opn) (j + 1) = 0):=hide (by rw [backF,if_neg (by rw [<- HXL.out,hc];decide),if_pos (by rw [<- HXL.out];exact hw)]);clear hc hw;go_wp2_with fail
     (try simp only [Exit.inBlock,Exit.then]);refine bodyPost_ret (results_none rfl _ _ _) rfl ?_
     exact ⟨rfl,by rw [HF.out,HE.out];unfold EndR;rw [if_pos rfl];exact HH.out.kept HB.out.drew⟩
    | false =>
     have HE:Hid (backF (fun o=>o == x.data.toList) (nmA l opn) (j + 1) = backF (fun o=>o == x.data.toList) (nmA l opn) j):=hide (by rw [backF,if_neg (by rw [<- HXL.out,hc];decide),if_neg (by rw [<- HXL.out,hw];decide)]);clear hc hw;go_wp2_with fail;go_roundw
     case rel=>exact ⟨j,by clear s1 i6;omega,by rw [i6],hide (by rw [HF.out,HE.out]),hide HB.out.drew⟩
     case measure=>rw [i6];clear s1 i6 i3;(try simp [intOf]);(try omega)
end Go.Proofs.YtiejmkjpgjbodaaGreatDoor
