import Derived.Test.YtmgpmdfmkdhfgaaGreatDoorSerW
namespace Go.Proofs.YtmgpmdfmkdhfgaaGreatDoor
open Go.RowKit
set_option linter.unusedVariables false
set_option linter.unusedSimpArgs false
set_option maxRecDepth 100000
def cntL:List (NdH × Tr) -> Nat
  | []=>0
  | p :: r=>1 + p.2.count + cntL r
theorem cntL_list (T:Tr):T.count = cntL T.list:=by induction T with
 | nil=>rfl
 | cons h K R _ ih=>simp only [Tr.count,Tr.list,cntL,ih]
theorem cntL_snoc (l:List (NdH × Tr)) (p:NdH × Tr):cntL (l ++ [p]) = cntL l + (1 + p.2.count):=by induction l with
 | nil=>simp [cntL]
 | cons q r ih=>simp only [List.cons_append,cntL,ih];omega
def smL (l:List (NdH × Tr)):Prop:=∀ p ∈ l,smallH p.1 = true /\ p.2.all smallH = true
theorem smL_all (T:Tr) (h:smL T.list):T.all smallH = true:=by induction T with
 | nil=>rfl
 | cons g K R _ ih =>
  have h0:=h (g,K) (by simp [Tr.list]);simp only [Tr.all,Bool.and_eq_true];exact ⟨h0.1,h0.2,ih (fun p hp=>h p (by simp [Tr.list,hp]))⟩
def WalkP (d:Nat):Prop:=∀ (v:Value) (T:Tr) (w:World),NodesIn w v T -> T.len <= maxLen ->
    Calls Tryz.prog 30 #[v,.int .i64 (d:Int)] w fun e w'=>∃ n:Nat,e = .returned (.int .i64 (n:Int)) /\ n <= 61 * (d + 1) /\ (n <= 60 -> T.count = n /\ T.all smallH = true) /\ Below w.heap.size w w'
set_option maxHeartbeats 8000000 in
theorem walk_step (d:Nat) (hd:d <= 40) (IH:∀ e,d = e + 1 -> WalkP e):WalkP d:=by
 intro v T w hT hm;obtain ⟨A,c,rfl⟩:=NodesC.form hT;unfold maxLen at hm;have H:=hide hT;have HIH:=hide IH;clear hT IH
 by_cases h0:T.len = 0
 ·have hz:T = .nil:=by cases T with | nil=>rfl | cons _ _ _=>simp [Tr.len] at h0
  subst hz;clear H HIH h0;have hkl:Tr.len .nil = 0:=rfl;rw [hkl];go_enter Tryz.func30,Tryz.ntmps30;go_wp2_with fail;go_ret;exact ⟨0,rfl,Nat.zero_le _,fun _=>⟨rfl,rfl⟩,Below.refl _ _⟩
 have z0:((T.len:Int) == 0) = false:=by rw [beq_eq_false_iff_ne];omega
 by_cases hb:d = 0 \/ 60 < T.len
 ·have HR:Hid ((61:Nat) <= 61 * (d + 1)):=hide (by omega)
  by_cases hd0:d = 0
  ·subst hd0;go_enter Tryz.func30,Tryz.ntmps30;go_wp2_with fail;go_ret;exact ⟨61,rfl,HR.out,fun h=>by omega,Below.refl _ _⟩
  ·have z1:decide ((60:Int) < T.len) = true:=decide_eq_true (by omega);have z2:((d:Int) == 0) = false:=by rw [beq_eq_false_iff_ne];omega
   have z3:60 < T.len:=by omega
   go_enter Tryz.func30,Tryz.ntmps30;go_wp2_with fail;go_ret;exact ⟨61,rfl,HR.out,fun h=>by omega,Below.refl _ _⟩
 have hl:T.len <= 60:=by omega
 obtain ⟨d',hdd⟩:∃ e,d = e + 1:=⟨d - 1,by omega⟩
 have HW:=hide (HIH.out d' hdd);subst hdd;have z1:decide ((60:Int) < T.len) = false:=decide_eq_false (by omega);have z2:((d':Int) + 1 == 0) = false:=by rw [beq_eq_false_iff_ne];omega
 clear hb HIH;rw [show (((d' + 1:Nat):Int)) = (d':Int) + 1 from by omega];go_enter Tryz.func30,Tryz.ntmps30;go_wp2_with fail;go_loopw [5,6] (fun nv i wr=>∃ k m:Nat,k <= T.len /\ i = .int .i64 k /\ nv = .int .i64 m /\ m <= 61 * (d' + 1 + 1) /\ Hid (m <= 60 -> cntL (T.list.take k) = m /\ smL (T.list.take k)) /\ Hid (Below w.heap.size w wr)) (fun _ i _=>T.len - (intOf i).toNat)
 case atStart=>exact ⟨0,0,Nat.zero_le _,rfl,rfl,Nat.zero_le _,hide (fun _=>⟨rfl,fun p hp=>by simp at hp⟩),hide (Below.refl _ _)⟩
 case round =>
  obtain ⟨k,m,hk,rfl,rfl,hmb,HC,HB⟩:=hrel
  by_cases hlt:k < T.len
  ·by_cases hm6:m <= 60
   ·have y1:decide ((m:Int) <= 60) = true:=decide_eq_true (by omega);obtain ⟨⟨f,K⟩,hf⟩:∃ f,T.list[k]? = some f:=⟨_,List.getElem?_eq_getElem (by rw [Tr.len_list];exact hlt)⟩
    have hI1:=H.out.kept HB.out;obtain ⟨a,dd,x,y,zz,mm,ha,-,p1,p2,hA,p3,p4,hmm,hK⟩:=NodesC.at hI1 k f K hf;subst ha hmm;have hKl:K.len <= maxLen:=by have:=hK.cap;omega
    obtain ⟨X1,hX1⟩:∃ X,X = str f.name:=⟨_,rfl⟩
    obtain ⟨X2,hX2⟩:∃ X,X = str f.text:=⟨_,rfl⟩
    have e1:X1.size = f.name.length:=by rw [hX1,str_size]
    have e2:X2.size = f.text.length:=by rw [hX2,str_size]
    rw [<- hX1] at p1;rw [<- hX2] at p3;have HCW:=hide (HW.out _ K wr hK hKl);have HAT:=hide hA.1;have HF:=hide hf;have HE1:=hide e1;have HE2:=hide e2;have HR:Hid ((61:Nat) <= 61 * (d' + 1 + 1)):=hide (by omega);clear hf hI1 hA hK hX1 hX2 e1 e2 hKl
    by_cases b1:300 < X1.size
    ·have y2:decide ((300:Int) < X1.size) = true:=decide_eq_true (by omega);go_wp2_with fail;go_ret;exact ⟨61,rfl,HR.out,fun h=>by omega,HB.out⟩
    have y2:decide ((300:Int) < X1.size) = false:=decide_eq_false (by omega)
    by_cases b2:300 < X2.size
    ·have y3:decide ((300:Int) < X2.size) = true:=decide_eq_true (by omega);go_wp2_with fail;go_ret;exact ⟨61,rfl,HR.out,fun h=>by omega,HB.out⟩
    have y3:decide ((300:Int) < X2.size) = false:=decide_eq_false (by omega)
    by_cases b3:40 < f.attrs.length
    ·have y4:decide ((40:Int) < f.attrs.length) = true:=decide_eq_true (by omega);go_wp2_with fail;go_ret;exact ⟨61,rfl,HR.out,fun h=>by omega,HB.out⟩
    have y4:decide ((40:Int) < f.attrs.length) = false:=decide_eq_false (by omega);go_wp2_with fail;go_loopw [7] (fun iv w2=>∃ j:Nat,j <= f.attrs.length /\ iv = .int .i64 j /\ Hid (w2 = wr) /\ Hid ((f.attrs.take j).all fitA = true)) (fun iv _=>f.attrs.length - (intOf iv).toNat)
    case atStart=>exact ⟨0,Nat.zero_le _,rfl,hide rfl,hide (by simp)⟩
    case round =>
     obtain ⟨j,hj,rfl,HWE,HJ⟩:=hrel;obtain rfl:=HWE.out
     by_cases hjl:j < f.attrs.length
     ·obtain ⟨q,hq⟩:∃ q,f.attrs[j]? = some q:=⟨_,List.getElem?_eq_getElem hjl⟩
      obtain ⟨b,hb,r1,r2⟩:=HAT.out.at j q hq;subst hb;obtain ⟨X3,hX3⟩:∃ X,X = str q.1:=⟨_,rfl⟩
      obtain ⟨X4,hX4⟩:∃ X,X = str q.2:=⟨_,rfl⟩
      have e3:X3.size = q.1.length:=by rw [hX3,str_size]
      have e4:X4.size = q.2.length:=by rw [hX4,str_size]
      rw [<- hX3] at r1;rw [<- hX4] at r2;have HE3:=hide e3;have HE4:=hide e4;have HQ:=hide hq;clear hX3 hX4 e3 e4 hq
      by_cases b4:300 < X3.size
      ·have y5:decide ((300:Int) < X3.size) = true:=decide_eq_true (by omega);go_wp2_with fail;go_ret;exact ⟨61,rfl,HR.out,fun h=>by omega,HB.out⟩
      have y5:decide ((300:Int) < X3.size) = false:=decide_eq_false (by omega)
      by_cases b5:300 < X4.size
      ·have y6:decide ((300:Int) < X4.size) = true:=decide_eq_true (by omega);go_wp2_with fail;go_ret;exact ⟨61,rfl,HR.out,fun h=>by omega,HB.out⟩
      have y6:decide ((300:Int) < X4.size) = false:=decide_eq_false (by omega)
      have HJ2:Hid ((f.attrs.take (j + 1)).all fitA = true):=hide (by
       rw [List.take_add_one,HQ.out,Option.toList_some,List.all_append,HJ.out];have h3:=HE3.out;have h4:=HE4.out;simp only [List.all_cons,List.all_nil,Bool.true_and,Bool.and_true,fitA,Bool.and_eq_true,decide_eq_true_eq];exact ⟨by omega,by omega⟩)
      go_wp2_with fail;go_roundw
      case rel=>exact ⟨j + 1,by omega,by go_num,by first | exact hide rfl | exact hide trivial,HJ2⟩
      case measure=>simp [intOf];omega
     ·have HSM:Hid (smallH f = true):=hide (by
       have h:=HJ.out;rw [List.take_of_length_le (by omega)] at h;have h1:=HE1.out;have h2:=HE2.out;unfold smallH fitT;simp only [Bool.and_eq_true,decide_eq_true_eq];exact ⟨by omega,by omega,by omega,h⟩)
      go_wp2_with fail;refine HCW.out.mono ?_;rintro e w3 ⟨n2,rfl,hn2,hn3,hb3⟩;have HN3:=hide hn3;have HB3:=hide (bl_one HB.out hb3);have hm2:m + 1 + n2 <= 61 * (d' + 1 + 1):=by omega
      have HC3:Hid (m + 1 + n2 <= 60 -> cntL (T.list.take (k + 1)) = m + 1 + n2 /\ smL (T.list.take (k + 1))):=hide (fun h=>by
       obtain ⟨c1,c2⟩:=HC.out (by omega);obtain ⟨c3,c4⟩:=HN3.out (by omega);rw [List.take_add_one,HF.out];refine ⟨?_,fun p hp=>?_⟩
       ·rw [Option.toList_some,cntL_snoc,c1,c3];omega
       ·rcases List.mem_append.1 hp with hp | hp
        ·exact c2 p hp
        ·rw [Option.toList_some,List.mem_singleton] at hp;subst hp;exact ⟨HSM.out,c4⟩)
      clear hn3 hb3;go_wp2_with fail;go_roundw
      case rel=>exact ⟨k + 1,m + 1 + n2,by omega,by go_num,by go_num,hm2,HC3,HB3⟩
      case measure=>simp [intOf];omega
   ·have y1:decide ((m:Int) <= 60) = false:=decide_eq_false (by omega);go_wp2_with fail;go_ret;exact ⟨m,rfl,hmb,fun h=>absurd h hm6,HB.out⟩
  ·obtain rfl:k = T.len:=by omega
   have HC2:=HC.out;rw [<- Tr.len_list,List.take_length] at HC2;replace HC2:=hide HC2;go_wp2_with fail;go_ret;exact ⟨m,rfl,hmb,fun h=>⟨(cntL_list T).trans (HC2.out h).1,smL_all T (HC2.out h).2⟩,HB.out⟩
theorem walk_all14:∀ d,d <= 40 -> WalkP d
 | 0,h=>walk_step 0 h (fun e he=>by omega)
 | d + 1,h=>walk_step (d + 1) h (fun e he=>by
   obtain rfl:d = e:=by omega
   exact walk_all14 d (by omega))
set_option maxHeartbeats 4000000 in
theorem small14_any (v:Value) (T:Tr) (w:World) (hT:NodesIn w v T) (hm:T.len <= maxLen) :
  Calls Tryz.prog 15 #[v] w fun e w'=>∃ b:Bool,e = .returned (.bool b) /\ (b = true -> T.count <= 60 /\ T.all smallH = true) /\ Below w.heap.size w w':=by
 have HW:=hide (walk_all14 35 (by omega) v T w hT hm);obtain ⟨A,c,rfl⟩:=NodesC.form hT;clear hT hm;go_enter Tryz.func15,Tryz.ntmps15;go_wp2_with fail;refine HW.out.mono ?_;rintro e w1 ⟨n,rfl,hn,hs,hb⟩;have HS:=hide hs;have HB:=hide hb;clear hs hb hn
 by_cases h6:n <= 60
 ·have y:decide ((n:Int) <= 60) = true:=decide_eq_true (by omega);go_wp2_with fail;go_ret;exact ⟨true,rfl,fun _=>⟨by rw [(HS.out h6).1];exact h6,(HS.out h6).2⟩,HB.out⟩
 ·have y:decide ((n:Int) <= 60) = false:=decide_eq_false (by omega);go_wp2_with fail;go_ret;exact ⟨false,rfl,fun h=>(by cases h),HB.out⟩
end Go.Proofs.YtmgpmdfmkdhfgaaGreatDoor
