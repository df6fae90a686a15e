import Derived.Test.YtmgpmdfmkdhfgaaGreatDoorHtokV
import Derived.Test.YtmgpmdfmkdhfgaaGreatDoorBaseN
namespace Go.Proofs.YtmgpmdfmkdhfgaaGreatDoor
open Go.RowKit
set_option linter.unusedVariables false
set_option linter.unusedSimpArgs false
set_option maxRecDepth 100000
theorem at_form {w:World} {B:Nat} {v:Value} {l:List AtL} (h:w.ownsRow B 47 2 v l.length (atVals l)):∃ A c,v = .slice A l.length c:=by
 rcases h.2 with ⟨rfl,h0⟩ | ⟨g,cap,cur,rfl,_⟩
 ·rw [h0];exact ⟨_,_,rfl⟩
 ·exact ⟨_,_,rfl⟩
theorem at_cells {w:World} {B:Nat} {A:Option Addr} {n cap:Nat} {l:List AtL} (h:w.ownsRow B 47 2 (.slice A n cap) l.length (atVals l)) (k:Nat) (f:AtL) (hk:l[k]? = some f) :
  ∃ a,A = some a /\ w.cell? (a.add (k * 2)) = some (.string (str f.1)) /\ w.cell? { block:=(a.add (k * 2)).block,off:=(a.add (k * 2)).off + 1 } = some (.string (str f.2)):=by
 rcases h.2 with ⟨_,h0⟩ | ⟨g,cap',cur,hv,hr⟩
 ·rw [List.eq_nil_of_length_eq_zero h0] at hk;simp at hk
 ·obtain ⟨a1,a2⟩:=atVals_at hk;rw [hv] at h;have hA:A = some ⟨g,0,none⟩:=by injection hv
  refine ⟨⟨g,0,none⟩,hA,h.cells (g:=g) rfl _ _ a1,?_⟩;have e3:({ block:=((⟨g,0,none⟩:Addr).add (k * 2)).block,off:=((⟨g,0,none⟩:Addr).add (k * 2)).off + 1 }:Addr) = (⟨g,0,none⟩:Addr).add (k * 2 + 1):=by rw [<- Addr.add_add];rfl
  rw [e3];exact h.cells (g:=g) rfl _ _ a2
theorem row_kept {w w':World} {B:Nat} {e:TypeId} {sz n:Nat} {v:Value} {xs:List Value} (h:w.ownsRow B e sz v n xs) (hb:Below w.heap.size w w'):w'.ownsRow B e sz v n xs :=
 h.kept (row:=none) ⟨hb.os,hb.tape,hb.output,hb.size,fun k hk _=>hb.block k hk⟩ (by cases hv:v.ownBlock <;> simp)
theorem box_kept {w w':World} {b:Nat} {t:TypeId} {v:Value} (h:Box w b t v) (hb:Below w.heap.size w w'):Box w' b t v:=(hb.block b (lt_of_block h)).trans h
set_option maxHeartbeats 1000000 in
theorem countsF_any (P1 P2 n:ByteArray) (b:Nat) (w:World) (hb:Box w b 9 (.string n)) :
  Calls Tryz.prog 148 #[.agg #[.string P1,.string P2],.pointer (some ⟨b,0,none⟩)] w fun e w'=>e = .returned (.bool (P1.toList == n.toList)) /\ Below w.heap.size w w':=by
 have hc:∀ o,(w.alloc o).cell? ⟨b,0,none⟩ = some (.string n):=fun o=>(box_kept hb ((Below.refl _ _).alloc (Nat.le_refl _) o)).cell
 have HB:=hide (fun o=>(Below.refl w.heap.size w).alloc (Nat.le_refl _) o);clear hb;go_enter Tryz.func148,Tryz.ntmps148;go_wp2_with fail;go_ret;exact ⟨rfl,HB.out _⟩
set_option maxHeartbeats 4000000 in
theorem indexAt_any (B:Nat) (v:Value) (l:List AtL) (n:ByteArray) (b:Nat) (w:World) (h:w.ownsRow B 47 2 v l.length (atVals l)) (hl:l.length <= 1000000) (hb:Box w b 9 (.string n)) :
  Calls Tryz.prog 63 #[v,.func (.func 148) #[] #[.pointer (some ⟨b,0,none⟩)]] w fun e w'=>∃ i:Int,e = .returned (.int .i64 i) /\ decide (0 <= i) = (l.any fun a=>a.1 == n.data.toList) /\ Below w.heap.size w w':=by
 obtain ⟨A,cap,rfl⟩:=at_form h;have H:=hide h;have HBX:=hide hb;clear h hb;go_enter Tryz.func63,Tryz.ntmps63;go_wp2_with fail;go_loopw [8] (fun iv wr=>∃ k:Nat,k <= l.length /\ iv = .int .i64 k /\ Hid (Below w.heap.size w wr) /\ Hid (((l.drop k).any fun a=>a.1 == n.data.toList) = (l.any fun a=>a.1 == n.data.toList))) (fun iv _=>l.length - (intOf iv).toNat)
 case atStart=>exact ⟨0,Nat.zero_le _,rfl,hide (Below.refl _ _),hide rfl⟩
 case round =>
  obtain ⟨k,hk,rfl,HB,HG⟩:=hrel;have hk6:k <= 1000000:=by omega
  by_cases hlt:k < l.length
  ·obtain ⟨a,rfl,c0,c1⟩:=at_cells (row_kept H.out HB.out) k _ (List.getElem?_eq_getElem hlt);have hdr:l.drop k = l[k] :: l.drop (k + 1):=List.drop_eq_getElem_cons hlt;have HG2:=HG.out;rw [hdr] at HG2;obtain ⟨p,hp⟩:∃ p,p = l[k]'hlt:=⟨_,rfl⟩
   rw [<- hp] at c0 c1 HG2;obtain ⟨P1,hP1⟩:∃ P1,P1 = str p.1:=⟨_,rfl⟩
   obtain ⟨P2,hP2⟩:∃ P2,P2 = str p.2:=⟨_,rfl⟩
   rw [<- hP1] at c0;rw [<- hP2] at c1;have HLT:=hide hlt;have HF:=hide (countsF_any P1 P2 n b wr (box_kept HBX.out HB.out));have t1:(P1.toList == n.toList) = (p.1 == n.data.toList):=by rw [hP1,str_list,bytes_list]
   rw [t1] at HF;cases he:(p.1 == n.data.toList) with
   | true =>
    rw [he] at HF
    have HV:Hid ((l.any fun a=>a.1 == n.data.toList) = true):=hide (by
     rw [<- HG2,List.any_cons,he,Bool.true_or])
    clear he hdr HG2 hp hP1 hP2 t1;go_wp2_with fail;refine HF.out.mono ?_;rintro e w1 ⟨rfl,hb⟩;have HB2:=hide (HB.out.trans (hb.mono HB.out.size));clear hb;go_wp2_with fail;go_ret;exact ⟨k,rfl,by rw [HV.out];exact decide_eq_true (by omega),HB2.out⟩
   | false =>
    rw [he] at HF
    have HGN:Hid (((l.drop (k + 1)).any fun a=>a.1 == n.data.toList) = (l.any fun a=>a.1 == n.data.toList)):=hide (by
     rw [<- HG2,List.any_cons,he,Bool.false_or])
    clear he hdr HG2 hp hP1 hP2 t1;go_wp2_with fail;refine HF.out.mono ?_;rintro e w1 ⟨rfl,hb⟩;have HB2:=hide (HB.out.trans (hb.mono HB.out.size));clear hb;go_wp2_with fail;go_roundw
    case rel=>exact ⟨k + 1,HLT.out,by go_num,HB2,HGN⟩
    case measure=>simp [intOf];have:=HLT.out;omega
  ·have HV:Hid ((l.any fun a=>a.1 == n.data.toList) = false):=hide (by
    rw [<- HG.out,List.drop_eq_nil_of_le (by omega)];rfl)
   go_wp2_with fail;go_ret;exact ⟨-1,rfl,by rw [HV.out];rfl,HB.out⟩
set_option maxHeartbeats 1000000 in
theorem containsAt_any (B:Nat) (v:Value) (l:List AtL) (n:ByteArray) (b:Nat) (w:World) (h:w.ownsRow B 47 2 v l.length (atVals l)) (hl:l.length <= 1000000) (hb:Box w b 9 (.string n)) :
  Calls Tryz.prog 44 #[v,.func (.func 148) #[] #[.pointer (some ⟨b,0,none⟩)]] w fun e w'=>e = .returned (.bool (l.any fun a=>a.1 == n.data.toList)) /\ Below w.heap.size w w':=by
 have HI:=hide (indexAt_any B v l n b w h hl hb);clear h hb;go_enter Tryz.func44,Tryz.ntmps44;go_wp2_with fail;refine HI.out.mono ?_;rintro e w1 ⟨i,rfl,hi,hb⟩;have HV:=hide hi;have HB:=hide hb;clear hi hb;go_wp2_with fail;go_ret;exact ⟨ret_bool HV.out,HB.out⟩
set_option maxHeartbeats 1000000 in
theorem counts_any (B:Nat) (v:Value) (l:List AtL) (n:ByteArray) (w:World) (h:w.ownsRow B 47 2 v l.length (atVals l)) (hl:l.length <= 1000000) :
  Calls Tryz.prog 120 #[v,.string n] w fun e w'=>e = .returned (.bool (countsB l n.data.toList)) /\ Below w.heap.size w w':=by
 have hk:=(Below.refl w.heap.size w).alloc (Nat.le_refl _) (.cells #[.string n] 9)
 have hbx:Box (w.alloc (.cells #[.string n] 9)) w.heap.size 9 (.string n):=by
  show (w.heap.push _)[w.heap.size]? = _
  exact Array.getElem?_push_size
 have HC:=hide (containsAt_any B v l n w.heap.size _ (row_kept h hk) hl hbx);obtain ⟨A,cap,rfl⟩:=at_form h;have HK:=hide hk;clear h hk hbx
 by_cases h30:l.length < 30
 ·have HR:Hid (countsB l n.data.toList = !(l.any fun a=>a.1 == n.data.toList)):=hide (by unfold countsB;rw [decide_eq_true h30,Bool.true_and]);go_enter Tryz.func120,Tryz.ntmps120;go_wp2_with fail
  all_goals first | (exact absurd h30 ‹_›) | skip
  refine HC.out.mono ?_;rintro e w1 ⟨rfl,hb⟩;have HB:=hide (HK.out.trans (hb.mono HK.out.size));clear hb;go_wp2_with fail;go_ret;exact ⟨ret_bool (by rw [HR.out]),HB.out⟩
 ·have HR:Hid (countsB l n.data.toList = false):=hide (by unfold countsB;rw [decide_eq_false h30,Bool.false_and]);go_enter Tryz.func120,Tryz.ntmps120;go_wp2_with fail
  all_goals first | (exact absurd ‹_› h30) | skip
  go_ret;exact ⟨ret_bool (by rw [HR.out]),HK.out⟩
end Go.Proofs.YtmgpmdfmkdhfgaaGreatDoor
