import Derived.Test.YtiejmkjpgjbodaaGreatDoorRef13P
import Derived.Test.YtiejmkjpgjbodaaGreatDoorSpace
import Derived.Test.YtiejmkjpgjbodaaGreatDoorBaseQ
import Derived.BigQuiet
import Derived.Deep.QuietTactic
namespace Go.Proofs.YtiejmkjpgjbodaaGreatDoor
open Go.RowKit
set_option linter.unusedVariables false
set_option linter.unusedSimpArgs false
set_option maxRecDepth 100000
theorem space_wh (c:UInt8):spaceB c = whB c:=u8_all (p:=fun c=>spaceB c = whB c) (by decide +kernel) c
theorem space13_any (c:UInt8) (w:World):Calls Tryz.prog 153 #[.int .u8 c.toNat] w fun e w'=>e = .returned (.bool (whB c)) /\ w = w':=by
 rw [<- space_wh];exact space_any c w
theorem ret_int13 {a b:Int} (h:a = b):Ending.returned (Value.int .i64 a) = Ending.returned (Value.int .i64 b):=by rw [h]
theorem drew_on' {w w':World} (h:∃ m,w' = w.drewN m) (n:Nat):∃ m,w'.drewN n = w.drewN m:=by
 obtain ⟨m,rfl⟩:=h;exact ⟨m + n,by rw [World.drewN_drewN]⟩
set_option maxHeartbeats 4000000 in
theorem until13_any (s:ByteArray) (a:Nat) (o:ByteArray) (p:UInt8 -> Bool) (w:World) (ha:a <= s.size) (hs:s.size <= 16777216) (ho:o.size <= 100) (hp:∀ c,p c = (whB c || o.data.toList.contains c)) :
  Calls Tryz.prog 130 #[.string s,.int .i64 a,.string o] w fun e w'=>e = .returned (.int .i64 (untilN p s.data.toList a:Nat)) /\ ∃ m,w' = w.drewN m:=by
 have HP:=hide hp;clear hp;go_enter Tryz.func130,Tryz.ntmps130;go_wp2_with fail;go_loopw [1] (fun av wr=>∃ k:Nat,k <= s.size /\ av = .int .i64 k /\ Hid (untilN p s.data.toList k = untilN p s.data.toList a) /\ Hid (∃ m,wr = w.drewN m)) (fun av _=>s.size - (intOf av).toNat)
 case atStart=>exact ⟨a,ha,rfl,hide rfl,hide ⟨0,rfl⟩⟩
 case round =>
  obtain ⟨k,hk,rfl,HU,HW⟩:=hrel
  by_cases hlt:k < s.size
  ·have hd:=drop_cons s k hlt;have HSP:=hide (fun w2=>space13_any s[k] w2);obtain ⟨c,hc⟩:∃ c,s[k] = c:=⟨_,rfl⟩
   have hcn:(s[k]'hlt).toNat = c.toNat:=by rw [hc]
   rw [hc] at hd;have HD:=hide hd;have HC:=hide hc;cases hw:whB c with
   | true =>
    have HR:Hid ((k:Int) = (untilN p s.data.toList a:Nat)):=hide (by
     rw [<- HU.out,until_stop hd (by rw [HP.out,hw];rfl)])
    rw [hc,hw] at HSP;clear hw hd hc HD HU;go_wp2_with (go_at_call 153;refine (HSP.out _).mono ?_;rintro e w2 ⟨rfl,rfl⟩);go_ret;exact ⟨ret_int13 HR.out,HW.out⟩
   | false =>
    have HPC:Hid (p c = o.data.toList.contains c):=hide (by rw [HP.out,hw];rfl);rw [hc,hw] at HSP;clear hw hd hc;go_wp2_with (go_at_call 153;refine (HSP.out _).mono ?_;rintro e w2 ⟨rfl,rfl⟩);go_loopw [7] (fun iv wr=>∃ i:Nat,i <= o.size /\ iv = .int .i64 i /\ Hid (c ∉ o.data.toList.take i) /\ Hid (∃ m,wr = w.drewN m)) (fun iv _=>o.size - (intOf iv).toNat)
    case atStart=>exact ⟨0,Nat.zero_le _,rfl,hide (by simp),HW⟩
    case round =>
     obtain ⟨i,hi,rfl,HN,HW2⟩:=hrel
     by_cases hil:i < o.size
     ·by_cases he:o[i] = c
      ·have te:((c.toNat:Int) == (o[i].toNat:Int)) = true:=by rw [he];exact beq_self_eq_true _
       have HR:Hid ((k:Int) = (untilN p s.data.toList a:Nat)):=hide (by
        have hin:c ∈ o.data.toList:=by
         rw [<- he];have:o[i] = o.data.toList[i]'(by rw [toList_length];exact hil):=rfl;rw [this];exact List.getElem_mem _
        rw [<- HU.out,until_stop HD.out (by rw [HPC.out];simpa using hin)])
       clear he;go_wp2_with fail;go_quiet (fail);go_wp2_with fail;go_ret;exact ⟨ret_int13 HR.out,drew_on' HW2.out nq⟩
      ·have te:((c.toNat:Int) == (o[i].toNat:Int)) = false:=by
        rw [beq_eq_false_iff_ne];intro e;exact he (UInt8.toNat_inj.1 (by omega))
       have HN2:Hid (c ∉ o.data.toList.take (i + 1)):=hide (by
        rw [take_snoc o i hil,List.mem_append,List.mem_singleton];exact fun e=>e.elim HN.out (fun e=>he e.symm))
       clear he;go_wp2_with fail;go_quiet (fail);go_wp2_with fail;go_roundw
       case rel=>exact ⟨i + 1,by omega,by go_num,HN2,hide (drew_on' HW2.out nq)⟩
       case measure=>simp [intOf];omega
     ·have HU2:Hid (untilN p s.data.toList (k + 1) = untilN p s.data.toList a):=hide (by
       have hno:=HN.out;rw [List.take_of_length_le (by rw [toList_length];omega)] at hno;rw [<- HU.out,until_step HD.out (by rw [HPC.out];simpa using hno)])
      go_wp2_with fail;go_roundw
      case rel=>exact ⟨k + 1,by omega,by go_num,HU2,HW2⟩
      case measure=>simp [intOf];omega
  ·have HR:Hid ((k:Int) = (untilN p s.data.toList a:Nat)):=hide (by
    rw [<- HU.out,until_past (by rw [toList_length];omega)])
   go_wp2_with fail;go_ret;exact ⟨ret_int13 HR.out,HW.out⟩
set_option maxHeartbeats 4000000 in
theorem white13_any (s:ByteArray) (a:Nat) (w:World) (ha:a <= s.size) (hs:s.size <= 16777216) :
  Calls Tryz.prog 154 #[.string s,.int .i64 a] w fun e w'=>e = .returned (.int .i64 (whiteN s.data.toList a:Nat)) /\ w = w':=by
 go_enter Tryz.func154,Tryz.ntmps154;go_wp2_with fail;go_loop [1] (fun av=>∃ k:Nat,k <= s.size /\ av = .int .i64 k /\ Hid (whiteN s.data.toList k = whiteN s.data.toList a)) (fun av=>s.size - (intOf av).toNat)
 case atStart=>exact ⟨a,ha,rfl,hide rfl⟩
 case round =>
  obtain ⟨k,hk,rfl,HU⟩:=hrel
  by_cases hlt:k < s.size
  ·have hd:=drop_cons s k hlt;have HSP:=hide (fun w2=>space13_any s[k] w2);obtain ⟨c,hc⟩:∃ c,s[k] = c:=⟨_,rfl⟩
   have hcn:(s[k]'hlt).toNat = c.toNat:=by rw [hc]
   rw [hc] at hd HSP;cases hw:whB c with
   | false =>
    have HR:Hid ((k:Int) = (whiteN s.data.toList a:Nat)):=hide (by
     rw [<- HU.out];unfold whiteN
     rw [until_stop hd (by rw [hw];rfl)])
    rw [hw] at HSP;clear hw hd hc HU;go_wp2_with (go_at_call 153;refine (HSP.out _).mono ?_;rintro e w2 ⟨rfl,rfl⟩);go_ret;exact ⟨ret_int13 HR.out,rfl⟩
   | true =>
    have HU2:Hid (whiteN s.data.toList (k + 1) = whiteN s.data.toList a):=hide (by
     rw [<- HU.out];unfold whiteN
     rw [<- until_step hd (by rw [hw];rfl)])
    rw [hw] at HSP;clear hw hd hc HU;go_wp2_with (go_at_call 153;refine (HSP.out _).mono ?_;rintro e w2 ⟨rfl,rfl⟩);go_round
    case rel=>exact ⟨k + 1,by omega,by go_num,HU2⟩
    case measure=>simp [intOf];omega
  ·have HR:Hid ((k:Int) = (whiteN s.data.toList a:Nat)):=hide (by
    rw [<- HU.out];unfold whiteN
    rw [until_past (by rw [toList_length];omega)])
   go_wp2_with fail;go_ret;exact ⟨ret_int13 HR.out,rfl⟩
theorem ext_prefix (s t:ByteArray) (k:Nat) (h:k + t.size <= s.size):((s.extract k (k + t.size)).toList == t.toList) = t.data.toList.isPrefixOf (s.data.toList.drop k):=by
 rw [bytes_list,bytes_list,extract_list];have hl:=toList_length t;have hsl:=toList_length s;have ht:(s.data.toList.take (k + t.size)).drop k = (s.data.toList.drop k).take t.size:=by rw [List.drop_take];congr 1;omega
 cases hp:t.data.toList.isPrefixOf (s.data.toList.drop k) with
 | true =>
  obtain ⟨r,hr⟩:=List.isPrefixOf_iff_prefix.1 hp;rw [ht,<- hr,<- hl,List.take_left];exact beq_self_eq_true _
 | false =>
  rw [beq_eq_false_iff_ne];intro e;rw [ht] at e;have:t.data.toList <+: s.data.toList.drop k:=⟨(s.data.toList.drop k).drop t.size,by rw [<- e];exact List.take_append_drop _ _⟩
  rw [List.isPrefixOf_iff_prefix.2 this] at hp;cases hp
set_option maxHeartbeats 4000000 in
theorem index13_any (s:ByteArray) (a:Nat) (t:ByteArray) (w:World) (ha:a <= s.size) (hs:s.size <= 16777216) (ht:1 <= t.size) (ht2:t.size <= 100) :
  Calls Tryz.prog 156 #[.string s,.int .i64 a,.string t] w fun e w'=>e = .returned (.int .i64 (idxZ t.data.toList s.data.toList a)) /\ w = w':=by
 go_enter Tryz.func156,Tryz.ntmps156;go_wp2_with fail;go_loop [1] (fun av=>∃ k:Nat,k <= s.size /\ av = .int .i64 k /\ Hid (idxZ t.data.toList s.data.toList k = idxZ t.data.toList s.data.toList a)) (fun av=>s.size - (intOf av).toNat)
 case atStart=>exact ⟨a,ha,rfl,hide rfl⟩
 case round =>
  obtain ⟨k,hk,rfl,HU⟩:=hrel;have t0:wrap64 ((k:Int) + (t.size:Int)) = (k:Int) + t.size:=by unfold wrap64;omega
  by_cases hlt:k + t.size <= s.size
  ·have hks:k < s.size:=by omega
   have hd:=drop_cons s k hks;have hpx:=ext_prefix s t k hlt;obtain ⟨P,hP⟩:∃ P,s.extract k (k + t.size) = P:=⟨_,rfl⟩
   rw [hP,hd] at hpx;have t1:decide ((k:Int) + t.size <= s.size) = true:=decide_eq_true (by omega);have t2:(k:Int) + t.size <= s.size:=by omega
   have t3:((k:Int) + t.size).toNat = k + t.size:=by omega
   cases hb:t.data.toList.isPrefixOf (s[k] :: s.data.toList.drop (k + 1)) with
   | true =>
    have HR:Hid ((k:Int) = idxZ t.data.toList s.data.toList a):=hide (by rw [<- HU.out,idx_here hd hb]);rw [hb] at hpx;clear hb hd HU;go_wp2_with fail;go_ret;exact ⟨ret_int13 HR.out,rfl⟩
   | false =>
    have HU2:Hid (idxZ t.data.toList s.data.toList (k + 1) = idxZ t.data.toList s.data.toList a):=hide (by rw [<- HU.out,idx_next hd hb]);rw [hb] at hpx;clear hb hd HU;go_wp2_with fail;go_round
    case rel=>exact ⟨k + 1,by omega,by go_num,HU2⟩
    case measure=>simp [intOf];omega
  ·have t1:decide ((k:Int) + t.size <= s.size) = false:=decide_eq_false (by omega)
   have HR:Hid (-1 = idxZ t.data.toList s.data.toList a):=hide (by
    rw [<- HU.out,idx_short (by rw [toList_length,toList_length];omega) (by rw [toList_length];exact hk)])
   go_wp2_with fail;go_ret;exact ⟨ret_int13 HR.out,rfl⟩
end Go.Proofs.YtiejmkjpgjbodaaGreatDoor
