/- More of the first texts of this claim in one: each with its own head. No statement is proved here. -/
import Derived.Test.YtmgpmdfmkdhfgaaGreatDoorBaseS
import Derived.Lib.Replace
import Derived.Test.YtmgpmdfmkdhfgaaGreatDoorBaseN
import Derived.Test.YtmgpmdfmkdhfgaaGreatDoorBaseM
import Derived.Test.YtmgpmdfmkdhfgaaGreatDoorShelf
import Derived.Laws.Runes
import Derived.WalkMore
import Derived.Laws.RangeAny
import Derived.Shelf.Strings.IndexAnyAll
import Derived.Shelf.Strings.SlTrimAscii
import Derived.Test.YtmgpmdfmkdhfgaaGreatDoorBaseO
import Derived.BigQuiet
import Derived.Deep.QuietTactic
namespace Go.Proofs.YtmgpmdfmkdhfgaaGreatDoor
open Go.RowKit
set_option linter.unusedVariables false
set_option linter.unusedSimpArgs false
set_option maxRecDepth 100000
set_option maxHeartbeats 16000000
theorem cons_off {c:UInt8} (hc:c ≠ 38) (r:List UInt8):beforeC 38 (c :: r) = c :: beforeC 38 r /\ afterC 38 (c :: r) = afterC 38 r /\ hasC 38 (c :: r) = hasC 38 r:=by
 have h1:(c != 38) = true:=by rw [bne_iff_ne];exact hc
 refine ⟨?_,?_,?_⟩
 ·unfold beforeC;rw [List.takeWhile_cons,h1];rfl
 ·unfold afterC;rw [List.dropWhile_cons,h1];rfl
 ·unfold hasC
  congr 1
  rw [List.mem_cons,eq_iff_iff];exact ⟨fun h=>h.elim (fun e=>absurd e.symm hc) id,.inr⟩
theorem decE_nil:decE [] = []:=decE_no rfl
theorem decE_cons {c:UInt8} (hc:c ≠ 38) (r:List UInt8):decE (c :: r) = c :: decE r:=by
 obtain ⟨e1,e2,e3⟩:=cons_off hc r;cases h:hasC 38 r with
 | false=>rw [decE_no h,decE_no (e3.trans h)]
 | true=>rw [decE_yes h,decE_yes (e3.trans h),e1,e2,List.cons_append]
theorem decE_amp (r:List UInt8):decE (38 :: r) = if 0 < (refN r).2 then runeL (refN r).1 ++ decE (r.drop (refN r).2) else 38 :: decE r:=by
 have e1:beforeC 38 (38 :: r) = []:=by simp [beforeC]
 have e2:afterC 38 (38 :: r) = r:=by simp [afterC]
 rw [decE_yes (by simp [hasC]),e1,e2,List.nil_append]
theorem name_one (c:UInt8):nameN [c] = none:=u8_all (p:=fun c=>nameN [c] = none) (by decide +kernel) c
theorem sgn_two {k:List UInt8} {x:Int} (h:sgn k = some x):2 <= k.length:=by
 match k,h with
 | [],h=>rw [show sgn [] = none by decide] at h;cases h
 | [c],h =>
  by_cases hc:c = 35
  ·subst hc;rw [show sgn [35] = none by decide] at h;cases h
  ·unfold sgn at h;split at h
   ·rename_i hp;have:35 = c:=by simpa [Lib.hasPrefix] using hp
    exact absurd this.symm hc
   ·rw [name_one] at h;cases h
 | _ :: _ :: _,_=>simp
theorem refN_three {l:List UInt8} (h:0 < (refN l).2):3 <= (refN l).2:=by
 unfold refN at h ⊢;split
 ·rename_i x h1 h2;have:=sgn_two h1;show 3 <= _ + 1
  omega
 ·rename_i hno;split at h
  ·rename_i x h1 h2;exact absurd h2 (by intro h2;exact hno x h1 h2)
  ·exact absurd h (by decide)
theorem decE_len:∀ (k:Nat) (l:List UInt8),l.length <= k -> (decE l).length <= l.length
 | _,[],_=>by rw [decE_nil];exact Nat.le_refl _
 | 0,c :: r,h=>absurd h (by simp)
 | k + 1,c :: r,h=>by
  by_cases hc:c = 38
  ·subst hc;rw [decE_amp];split
   ·rename_i hn;have h3:=refN_three hn;have hle:=(refN_ok r).2;have hr:=(runeL_length (refN r).1).2.1;have:=decE_len k (r.drop (refN r).2) (by rw [List.length_drop];simp only [List.length_cons] at h;omega);rw [List.length_drop] at this;rw [List.length_append,List.length_cons];omega
   ·have:=decE_len k r (by simpa using h);simp only [List.length_cons];omega
  ·have:=decE_len k r (by simpa using h);rw [decE_cons hc];simp only [List.length_cons];omega
def kindN (z:Int):Nat:=if z = 1 then 1 else if z = 2 then 2 else if z = 3 then 3 else 0
def toL (p:TokG):TokL:=⟨kindN p.1,p.2.name,p.2.attrs,p.2.text⟩
def fitA (a:AtL):Bool:=decide (a.1.length <= 300) && decide (a.2.length <= 300)
def fitT (t:TokL):Bool:=decide (t.name.length <= 300) && (decide (t.text.length <= 300) && (decide (t.attrs.length <= 40) && t.attrs.all fitA))
theorem fitT_len {t:TokL} (h:fitT t = true):t.name.length <= 300 /\ t.text.length <= 300 /\ t.attrs.length <= 40 /\ ∀ a ∈ t.attrs,a.1.length <= 300 /\ a.2.length <= 300:=by
 unfold fitT at h;simp only [Bool.and_eq_true,decide_eq_true_eq,List.all_eq_true,fitA] at h;exact ⟨h.1,h.2.1,h.2.2.1,h.2.2.2⟩
instance decTK2:DecidableEq (List UInt8 × List AtL):=inferInstance
instance decTK1:DecidableEq (List UInt8 × List UInt8 × List AtL):=inferInstance
instance decTK0:DecidableEq (Int × List UInt8 × List UInt8 × List AtL):=inferInstance
theorem mark_kinds (dec:List UInt8 -> List UInt8) {c:UInt8} {r:List UInt8} (hm:isMarkB (c :: r) = true) (t:TokL) (h:(markL dec r).1 = some t):t.kind ≠ 1 /\ (t.kind = 2 -> t.name ≠ []):=by
 refine ⟨((mark_form dec r).1 t h).2,fun hk=>?_⟩
 have hrem:∀ k,(remL k).1 = some t -> False:=fun k e=>by
  injection e with e;rw [<- e] at hk;exact absurd (show (4:Nat) = 2 from hk) (by decide)
 have hlong:∀ k,(longL k).1 = some t -> False:=fun k e=>by
  unfold longL at e;split at e <;> (injection e with e;rw [<- e] at hk;exact absurd (show (4:Nat) = 2 from hk) (by decide))
 have hend:∀ k,(endL dec k).1 = some t -> False:=fun k e=>by
  unfold endL at e;split at e
  ·cases e
  ·injection e with e;rw [<- e] at hk;exact absurd (show (3:Nat) = 2 from hk) (by decide)
 unfold markL at h;split at h
 ·split at h
  ·cases h
  ·split at h
   ·exact (hend _ h).elim
   ·split at h
    ·cases h
    ·exact (hrem _ h).elim
 ·split at h
  ·exact (hlong _ h).elim
  ·exact (hrem _ h).elim
 ·exact (hrem _ h).elim
 ·rename_i h1 h2 h3;cases r with
  | nil =>
   exfalso;unfold isMarkB at hm;split at hm
   ·rename_i e;injection e with _ e;cases e
   ·cases hm
  | cons d q =>
   have hd:letterB d = true:=by
    unfold isMarkB at hm;split at hm
    ·rename_i c' r' e;injection e with e1 e2;injection e2 with e2 e3;subst e2 e3;rw [if_neg (fun e=>e.elim (fun e=>h2 _ (by rw [e])) (fun e=>h3 _ (by rw [e]))),if_neg (fun e=>h1 _ (by rw [e]))] at hm;exact hm
    ·cases hm
   have hne:nameEndB d = false:=(u8_all (p:=fun d=>letterB d = true -> nameEndB d = false) (by decide +kernel) d) hd;unfold startL at h;cases ht:tagL dec (d :: q) with
   | none=>rw [ht] at h;cases h
   | some p =>
    obtain ⟨n,A,b⟩:=p
    have hn:n ≠ []:=by
     unfold tagL at ht;cases ha:attrsLL dec [] (upL nameEndB (d :: q)).2 with
     | none=>rw [ha] at ht;cases ht
     | some p =>
      obtain ⟨B,x⟩:=p;rw [ha] at ht;injection ht with ht;injection ht with ht _;rw [<- ht];unfold upL lowL;rw [List.takeWhile_cons,hne];simp
    rw [ht] at h;simp only at h;split at h
    ·injection h with h;rw [<- h];exact hn
    ·injection h with h;rw [<- h];exact hn
def TokW (N:Nat) (t:TokL):Prop:=(t.kind = 1 -> t.text.length <= N) /\ (t.kind = 2 -> t.name ≠ [])
theorem flush_w {N:Nat} {L:List TokL} (h:∀ t ∈ L,TokW N t) {x:List UInt8} (hx:x.length <= N):∀ t ∈ flushT L x,TokW N t:=by
 unfold flushT;split
 ·exact h
 ·intro t ht;rcases List.mem_append.1 ht with ht | ht
  ·exact h t ht
  ·obtain rfl:=List.mem_singleton.1 ht;exact ⟨fun _=>hx,fun e=>absurd (show (1:Nat) = 2 from e) (by decide)⟩
theorem scan_w (dec:List UInt8 -> List UInt8) (hdec:∀ l,(dec l).length <= l.length) (N:Nat):∀ (k:Nat) (l:List UInt8) (L:List TokL) (x:List UInt8),l.length <= k -> x.length + l.length <= N -> (∀ t ∈ L,TokW N t) -> ∀ t ∈ scanL dec L x l,TokW N t:=by
 intro k
 induction k with
 | zero =>
  intro l L x hl hN h;obtain rfl:l = []:=List.eq_nil_of_length_eq_zero (by omega);rw [scanL_nil];exact flush_w h (by simpa using hN)
 | succ k ih =>
  intro l L x hl hN h;cases l with
  | nil=>rw [scanL_nil];exact flush_w h (by simpa using hN)
  | cons c r =>
   by_cases hm:0 < markN (c :: r)
   ·rw [scanL_text dec L x hm];have h1:=markN_le (c :: r);have h2:((c :: r).drop (markN (c :: r))).length = (c :: r).length - markN (c :: r):=List.length_drop;have h3:=hdec ((c :: r).take (markN (c :: r)));rw [List.length_take] at h3;exact ih _ L _ (by rw [h2];omega) (by rw [h2,List.length_append];omega) h
   ·have hmk:isMarkB (c :: r) = true:=markN_zero (by omega);rw [scanL_mark dec L x hmk];have hlen:(c :: r).length = r.length + 1:=rfl;obtain ⟨m1,m2,m3⟩:=mark_form dec r;refine ih _ _ _ (by omega) ?_ ?_
    ·unfold addT;cases ho:(markL dec r).1 with
     | none=>have:=m2 ho;simp only [this,List.append_nil];omega
     | some u=>simp only;omega
    ·unfold addT;cases ho:(markL dec r).1 with
     | none=>exact h
     | some u =>
      intro t ht;simp only at ht;rcases List.mem_append.1 ht with ht | ht
      ·exact flush_w h (by omega) t ht
      ·obtain rfl:=List.mem_singleton.1 ht;obtain ⟨k1,k2⟩:=mark_kinds dec hmk t ho;exact ⟨fun e=>absurd e k1,k2⟩
theorem scanE_w (s:ByteArray):(∀ t ∈ scanL decE [] [] s.data.toList,TokW s.size t) /\ (scanL decE [] [] s.data.toList).length <= s.size:=by
 refine ⟨scan_w decE (fun l=>decE_len _ l (Nat.le_refl _)) s.size _ s.data.toList [] [] (Nat.le_refl _) (by rw [toList_length];simp) (fun t h=>by cases h),?_⟩;have:=(scan_forms decE _ s.data.toList [] [] (Nat.le_refl _) ⟨fun t h=>(by cases h),fun i a b h=>by simp at h⟩ (fun t h=>by simp at h)).2;rw [toList_length] at this
 simpa [sz1] using this
theorem whole_first {l:List UInt8} (h:wholeN l ≠ 0):contB (l.getD 0 0) = false /\ ∀ p,0 < p -> p < wholeN l -> contB (l.getD p 0) = true:=by
 have nc:∀ a:UInt8,(a.toNat < 128 \/ 192 <= a.toNat) -> contB a = false:=fun a ha=>by
  cases hc:contB a with
  | false=>rfl
  | true=>have:=(contB_iff a).1 hc;omega
 rcases whole_cases l with e | ⟨a,r,rfl,h1,e⟩ | ⟨a,b,r,rfl,h1,h2,h3,h4,e⟩ | ⟨a,b,c,r,rfl,h1,h2,h3,h4,h5,h6,e⟩ | ⟨a,b,c,d,r,rfl,h1,h2,h3,h4,h5,h6,h7,e⟩
 ·exact absurd e h
 ·rw [e];exact ⟨nc a (.inl h1),fun p h0 h1=>by omega⟩
 ·rw [e];exact ⟨nc a (.inr h1),fun p h0 h1=>by
   obtain rfl:p = 1:=by omega
   exact h3⟩
 ·rw [e];exact ⟨nc a (.inr (by omega)),fun p h0 h1=>by
   obtain rfl | rfl:p = 1 \/ p = 2:=by omega
   ·exact h3
   ·exact h4⟩
 ·rw [e];exact ⟨nc a (.inr (by omega)),fun p h0 h1=>by
   obtain rfl | rfl | rfl:p = 1 \/ p = 2 \/ p = 3:=by omega
   ·exact h3
   ·exact h4
   ·exact h5⟩
theorem indexByte_high (l:List UInt8) (c:UInt8) (h:∀ x ∈ l,x.toNat < 128) (hc:128 <= c.toNat):Lib.indexByte l c = -1:=by
 induction l with
 | nil=>rfl
 | cons a r ih =>
  have ha:=h a (List.mem_cons_self ..)
  have hne:(a == c) = false:=by
   rw [beq_eq_false_iff_ne];rintro rfl;omega
  simp [Lib.indexByte,hne,ih (fun x hx=>h x (List.mem_cons_of_mem _ hx))]
theorem quiet_add_same {P:Program} {f:FuncId} {args:Array Value} {w:World} {a n:Nat} {v:Value}
  (h:Calls P f args (w.drewN (a + n)) fun e w'=>e = .returned v /\ w' = w.drewN (a + n)) :
  Calls P f args (w.drewN (a + n)) fun e w''=>e = .returned v /\ ∃ m,w'' = w.drewN (a + m) :=
 h.mono fun _ _ ⟨he,hm⟩=>⟨he,n,hm⟩
theorem indexRune_high (s:ByteArray) (r:Int) (w:World) (hs:s.size <= 100) (ha:s.data.toList.all (fun c=>decide (c.toNat < 128)) = true) (h1:128 <= r) (h2:r <= 2147483647) :
  Calls Tryz.prog 174 #[.string s,.int .i32 r] w fun e w'=>e = .returned (.int .i64 (-1)) /\ Below w.heap.size w w':=by
 have h3:¬ r < 128:=by omega
 have h4:0 <= r:=by omega
 by_cases he:r = 65533
 ·subst he;have HA:=hide ha;clear ha;go_enter Tryz.func174,Tryz.ntmps174;go_wp2;go_loopw [5,6] (fun _ _ wr=>∃ pos:Nat,pos <= s.size /\ wr = w.iter s pos) (fun _ _ wr=>s.size - wr.iterPos w.heap.size)
  case atStart=>exact ⟨0,Nat.zero_le _,rfl⟩
  case round =>
   obtain ⟨pos,hp,rfl⟩:=hrel
   by_cases hlt:pos < s.size
   ·obtain ⟨x,hx,hx1,hnx⟩:=next_ascii (P:=Tryz.prog) w s pos hlt HA.out;clear hx;have hne:((x.toNat:Int) == 65533) = false:=by rw [beq_eq_false_iff_ne];omega
    go_wp2;go_roundw
    case rel=>exact ⟨pos + 1,by omega,rfl⟩
    case measure=>simp;omega
   ·obtain rfl:pos = s.size:=by omega
    have hnx:=run_next_end (P:=Tryz.prog) w s s.size;go_wp2;go_ret;exact ⟨rfl,iter_below _ _ _⟩
 ·have hne:(r == 65533) = false:=by rw [beq_eq_false_iff_ne];exact he
  cases hv:Utf8.valid r with
  | false =>
   have HV:Hid (Lib.validRune r = false):=hide (by rw [show Lib.validRune r = Go.validRune r from rfl,<- validRune_eq];exact hv);clear hv he;go_enter Tryz.func174,Tryz.ntmps174;go_wp2_with fail;refine (Tryz.utf8_ValidRune r _).mono ?_;rintro e w' ⟨rfl,hw⟩;subst hw;rw [HV.out];go_wp2_with fail;go_ret;exact ⟨rfl,Below.refl _ _⟩
  | true =>
   obtain ⟨e1,e2,e3⟩:=encode_facts r hv h1;have HV:Hid (Lib.validRune r = true):=hide (by rw [show Lib.validRune r = Go.validRune r from rfl,<- validRune_eq];exact hv);clear hv he;obtain ⟨E,hE⟩:∃ E,E = Utf8.encode r:=⟨_,rfl⟩
   rw [<- hE] at e1 e2 e3
   have hcv:∀ w:World,(convert 21 9 (.int .i32 r)).run Tryz.prog w = .ok (.string E) w:=fun w=>by
    rw [hE];exact run_convert_int_string w 21 9 .i32 r (by rw [Tryz.underlying21];rfl) Tryz.underlying9
   clear hE;obtain ⟨m,hm⟩:∃ m:Nat,E.size = m + 1:=⟨E.size - 1,by omega⟩
   have hm1:m < E.size:=by omega
   have hb:128 <= (E[m]'hm1).toNat:=by
    have:∀ j (h:j < E.size),j = E.size - 1 -> 128 <= (E[j]'h).toNat:=fun j h e=>by subst e;exact e3 h
    exact this m hm1 (by omega)
   have hmm:(m:Int) < (m:Int) + 1:=by omega
   have hw:IntKind.i64.wrap ((m:Int) + 1) = (m:Int) + 1:=IntWalk.i64_in _ (by omega);clear e3
   by_cases hlt:m < s.size
   ·have hsm:(s[m]'hlt).toNat < 128:=by
     have:=List.all_eq_true.1 ha s[m] (by rw [<- Array.mem_def];exact Array.getElem_mem (by exact hlt))
     simpa using this
    have hne2:((s[m].toNat:Int) != (E[m].toNat:Int)) = true:=by
     rw [bne_iff_ne];omega
    have hix:Lib.indexByte (s.extract (m + 1) s.size).data.toList (E[m].toNat:Int).toNat.toUInt8 = -1:=by
     refine indexByte_high _ _ (fun x hx=>?_) (by simp;exact hb);have:=List.all_eq_true.1 ha x (mem_extract hx)
     simpa using this
    have HIX:=hide hix;have o0:(0:Int) <= m:=by omega
    have o1:(m:Int) + 1 <= s.size:=by omega
    have o3:(0:Int) <= (m:Int) + 1:=by omega
    have o4:((m:Int) + 1).toNat = m + 1:=by omega
    clear ha hb hix;go_enter Tryz.func174,Tryz.ntmps174;go_wp2_with fail;refine (Tryz.utf8_ValidRune r _).mono ?_;rintro e w' ⟨rfl,hw⟩;subst hw;rw [HV.out];go_wp2_with fail;go_step3;go_wp2;go_loop [9,10,11,12] (fun i f _ _=>i = .int .i64 m /\ f = .int .i64 0) (fun _ _ _ _=>0)
    case atStart=>exact ⟨rfl,rfl⟩
    case round =>
     obtain ⟨rfl,rfl⟩:=hrel;go_wp2;go_step3;go_wp2;go_quiet (fail);go_wp2;go_quiet ((go_at_call 108;exact quiet_add_same (Tryz.strings_IndexByte _ _ _)));rw [HIX.out];go_wp2;simp +zetaDelta only [Exit.noGoto_ret,go_sem];go_ret;exact ⟨rfl,⟨rfl,rfl,rfl,Nat.le_refl _,fun _ _=>rfl⟩⟩
   ·have o4:((m:Int) + 1).toNat = m + 1:=by omega
    clear ha hb;go_enter Tryz.func174,Tryz.ntmps174;go_wp2_with fail;refine (Tryz.utf8_ValidRune r _).mono ?_;rintro e w' ⟨rfl,hw⟩;subst hw;rw [HV.out];go_wp2_with fail;go_step3;go_wp2;go_loop [9,10,11,12] (fun i f _ _=>i = .int .i64 m /\ f = .int .i64 0) (fun _ _ _ _=>0)
    case atStart=>exact ⟨rfl,rfl⟩
    case round =>
     obtain ⟨rfl,rfl⟩:=hrel;go_wp2
     try simp +zetaDelta only [Exit.noGoto_ret,go_sem]
     go_ret;exact ⟨rfl,Below.refl _ _⟩
theorem decode_high_or (s:ByteArray) (pos:Nat) (h:pos < s.size):(s[pos].toNat < 128 /\ Utf8.decode s pos = (s[pos].toNat,1)) \/ (128 <= s[pos].toNat /\ 128 <= (Utf8.decode s pos).1 /\ 1 <= (Utf8.decode s pos).2):=by
 by_cases ha:s[pos].toNat < 128
 ·refine .inl ⟨ha,?_⟩;simp only [Utf8.decode,get_at s pos h,ha,if_true]
 ·exact .inr ⟨by omega,_root_.Go.decode_high s pos h (by omega)⟩
theorem not_contains_high {l:List UInt8} (h:l.all (fun c=>decide (c.toNat < 128)) = true) {c:UInt8} (hc:128 <= c.toNat):l.contains c = false:=by
 cases hm:l.contains c with
 | false=>rfl
 | true =>
  have:=List.all_eq_true.1 h c (by simpa using hm);have h2:c.toNat < 128:=by simpa using this
  omega
theorem decode_span (s:ByteArray) (pos:Nat) (h:pos < s.size) (ha:128 <= s[pos].toNat):∀ j,pos <= j -> j < pos + (Utf8.decode s pos).2 -> ∀ b,s.data.toList[j]? = some b -> 128 <= b.toNat:=by
 intro j h1 h2 b hb;rcases Nat.eq_or_lt_of_le h1 with rfl | h1
 ·rw [List.getElem?_eq_getElem (by rw [toList_length];exact h)] at hb;rw [<- Option.some.inj hb];exact ha
 ·have hj:j < s.size:=by have:=(List.getElem?_eq_some_iff.1 hb).1;rwa [toList_length] at this
  have e:=decode_decL s pos h;have hsp:=decL_spec (s.data.toList.drop pos) (by rw [drop_cons s pos h];simp);rw [e,hsp.2.1] at h2
  by_cases hz:wholeN (s.data.toList.drop pos) = 0
  ·rw [vStep_zero hz] at h2;simp at h2;omega
  ·rw [vStep_pos rfl hz] at h2;simp only at h2;have hw:=whole_first hz;have:=hw.2 (j - pos) (by omega) (by omega);rw [List.getD_eq_getElem?_getD,List.getElem?_drop,Nat.add_sub_cancel' (by omega),hb] at this;have:=(contB_iff b).1 this;omega
theorem decode_end (s:ByteArray) (pos:Nat) (h:pos < s.size):pos + (Utf8.decode s pos).2 <= s.size:=by
 have hne:s.data.toList.drop pos ≠ []:=by rw [drop_cons s pos h];simp
 have hsp:=decL_spec _ hne;have hst:=vStep_pos' _ hne;rw [List.length_drop,toList_length] at hst;rw [decode_decL s pos h,hsp.2.1];omega
theorem noAny_step {s:ByteArray} {cs:List UInt8} {pos n:Nat} (h:Lib.NoAny s.data.toList cs pos) (hn:∀ j,pos <= j -> j < pos + n -> ∀ b,s.data.toList[j]? = some b -> cs.contains b = false):Lib.NoAny s.data.toList cs (pos + n):=by
 intro j b hj hb;rcases Nat.lt_or_ge j pos with h1 | h1
 ·exact h j b h1 hb
 ·exact hn j h1 hj b hb
theorem indexAny_short (s cs:ByteArray) (w:World) (h2:2 <= cs.size) (hcs:cs.size <= 100) (h8:s.size <= 8) (ha:cs.data.toList.all (fun c=>decide (c.toNat < 128)) = true) :
  Calls Tryz.prog 142 #[.string s,.string cs] w fun e w'=>e = .returned (.int .i64 (Lib.indexAny s.data.toList cs.data.toList)) /\ Below w.heap.size w w':=by
 have hemp:cs.toList.isEmpty = false:=by
  rw [Lib.toList_data];cases h:cs.data.toList with
  | nil=>have:=Lib.size_eq cs;rw [h,List.length_nil] at this;omega
  | cons _ _=>rfl
 have hn1:((cs.size:Int) == 1) = false:=beq_eq_false_iff_ne.2 (by omega);have h8z:decide ((8:Int) < (s.size:Int)) = false:=decide_eq_false (by omega);have HA:=hide ha;clear ha;go_enter Tryz.func142,Tryz.ntmps142;go_wp2_with fail;refine (Tryz.strings_shouldUseASCIISet _ _).mono ?_;rintro e w1 ⟨rfl,hw1⟩;subst hw1;rw [h8z];go_wp2_with fail;have hit:(w1.iter s 0).heap[w1.heap.size]? = some (Obj.stringIter s 0):=heap_alloc_new w1 _;have hb0:Below w1.heap.size w1 (w1.iter s 0):=iter_below w1 s 0;have hg0:w1.heap.size < (w1.iter s 0).heap.size:=(Array.getElem?_eq_some_iff.1 hit).1;go_loopw [9,10] (fun _ _ wr=>∃ pos:Nat,pos <= s.size /\ wr.heap[w1.heap.size]? = some (Obj.stringIter s pos) /\ Below w1.heap.size w1 wr /\ Lib.NoAny s.data.toList cs.data.toList pos) (fun _ _ wr=>s.size - wr.iterPos w1.heap.size)
 case atStart=>exact ⟨0,Nat.zero_le _,hit,hb0,Lib.NoAny.zero _ _⟩
 case round =>
  obtain ⟨pos,hpos,hk,hb,hno⟩:=hrel;have HK:=hide hk;have HB:=hide hb;have HN:=hide hno;have hsz:w1.heap.size < wr.heap.size:=(Array.getElem?_eq_some_iff.1 hk).1;clear hk hb hno
  by_cases hlt:pos < s.size
  ·have hnx:=fun ty=>Lib.run_next_any_at (P:=Tryz.prog) wr w1.heap.size s pos ty HK.out hlt
   have hle:=decode_le s pos;rcases decode_high_or s pos hlt with ⟨hx,hdec⟩ | ⟨hx,hd1,hd2⟩
   ·rw [hdec] at hnx;have hg:s.data.toList[pos]? = some s[pos]:=by rw [List.getElem?_eq_getElem (by rw [toList_length];exact hlt)];rfl
    have hcon:=Lib.contains_iff_indexByte cs.data.toList s[pos];have hback:((s[pos].toNat:Int)).toNat.toUInt8 = s[pos]:=by simp
    have HI:=hide (Lib.iterAt_heap wr w1.heap.size s pos (pos + 1) HK.out);have HB1:=hide (Lib.below_iterAt HB.out (Nat.le_refl _) s (pos + 1));have HG:=hide hg;clear hdec hg;cases hin:cs.data.toList.contains s[pos]
    ·rw [hin] at hcon;have hlt2:¬ ((0:Int) <= Lib.indexByte cs.data.toList s[pos]):=of_decide_eq_false hcon.symm;have HIN:=hide hin;clear hcon hin;go_wp2_with fail;refine (Tryz.strings_IndexRune_ascii _ _ _ (by omega) (by omega)).mono ?_;rintro e w2 ⟨rfl,hw2⟩;subst hw2;rw [hback];go_wp2_with fail;go_roundw
     case rel=>exact ⟨pos + 1,by omega,HI.out,HB1.out,HN.out.succ HG.out HIN.out⟩
     case measure =>
      rw [show World.iterPos (World.iterAt wr w1.heap.size s (pos + 1)) w1.heap.size = pos + 1 by unfold World.iterPos;rw [HI.out],show World.iterPos wr w1.heap.size = pos by unfold World.iterPos;rw [HK.out]];omega
    ·rw [hin] at hcon;have hge:(0:Int) <= Lib.indexByte cs.data.toList s[pos]:=of_decide_eq_true hcon.symm;have HIN:=hide hin;clear hcon hin;go_wp2_with fail;refine (Tryz.strings_IndexRune_ascii _ _ _ (by omega) (by omega)).mono ?_;rintro e w2 ⟨rfl,hw2⟩;subst hw2;rw [hback];go_wp2_with fail;go_ret;exact ⟨ret_int (by rw [Lib.indexAny_hit HN.out HG.out HIN.out]),HB1.out⟩
   ·have hsp:=decode_span s pos hlt hx;have hle2:=decode_end s pos hlt;generalize Utf8.decode s pos = dl at hnx hd1 hd2 hle hsp hle2;obtain ⟨r,n⟩:=dl;simp only at hnx hd1 hd2 hle hsp hle2;have HI:=hide (Lib.iterAt_heap wr w1.heap.size s pos (pos + n) HK.out);have HB1:=hide (Lib.below_iterAt HB.out (Nat.le_refl _) s (pos + n));have HN2:=hide (noAny_step HN.out fun j h1 h2 b hb=>not_contains_high HA.out (hsp j h1 h2 b hb));clear hsp;go_wp2_with fail;refine (indexRune_high cs (r:Int) _ (by omega) HA.out (by omega) (by omega)).mono ?_;rintro e w2 ⟨rfl,hb2⟩;have HI2:=hide ((hb2.block _ (by rw [Lib.iterAt_size];exact hsz)).trans HI.out);have HB2:=hide (HB1.out.trans (hb2.mono (by rw [Lib.iterAt_size];exact HB.out.size)));clear hb2;go_wp2_with fail;go_roundw
    case rel=>exact ⟨pos + n,by omega,HI2.out,HB2.out,HN2.out⟩
    case measure =>
     have e1:World.iterPos w2 w1.heap.size = pos + n:=by unfold World.iterPos;rw [HI2.out]
     have e2:World.iterPos wr w1.heap.size = pos:=by unfold World.iterPos;rw [HK.out]
     rw [e1,e2];omega
  ·have hnx:=fun ty=>Lib.run_next_end_at (P:=Tryz.prog) wr w1.heap.size s pos ty HK.out hlt
   go_wp2;go_ret;exact ⟨ret_int (by rw [Lib.indexAny_none (by rw [<- Lib.size_eq];exact fun j b hj=>HN.out j b (by omega))]),HB.out⟩
theorem indexAny_any (s cs:ByteArray) (w:World) (h2:2 <= cs.size) (hcs:cs.size <= 100) (hs:s.size <= 16777216) (ha:cs.data.toList.all (fun c=>decide (c.toNat < 128)) = true) :
  Calls Tryz.prog 142 #[.string s,.string cs] w fun e w'=>e = .returned (.int .i64 (Lib.indexAny s.data.toList cs.data.toList)) /\ Below w.heap.size w w':=by
 by_cases h8:s.size <= 8
 ·exact indexAny_short s cs w h2 hcs h8 ha
 ·exact (Tryz.strings_IndexAny_long (zero_of_info (n:=256) (by kernel_rfl)).1 s cs w h2 (by omega) (by omega) (by omega) (ascii_of_all ha)).mono fun e w' ⟨he,hw⟩=>⟨he,by rw [hw];exact ((Below.refl _ _).alloc (Nat.le_refl _) _).alloc (by simp) _⟩
theorem letterW_any (c:UInt8) (w:World) :
  Calls Tryz.prog 74 #[.int .u8 c.toNat] w fun e w'=>e = .returned (.bool (letterB c)) /\ w = w':=by
 have hc:=byte_lt c;rcases letter_case c with ⟨c1,c2,e⟩ | ⟨c1,c2,c3,e⟩ | ⟨c1,c2,e⟩ | ⟨c1,c2,c3,e⟩ | ⟨c1,c2,e⟩
 all_goals
  rw [e];clear e
  go_enter Tryz.func74,Tryz.ntmps74;go_wp2;go_ret;exact ⟨ret_bool (by first | rfl | (simp;omega)),rfl⟩
theorem indexAny_up (cs:List UInt8):∀ l:List UInt8,(Lib.indexAny l cs = -1 /\ l.takeWhile (fun c=>!cs.contains c) = l /\ l.dropWhile (fun c=>!cs.contains c) = []) \/
  ∃ o:Nat,Lib.indexAny l cs = o /\ o < l.length /\ l.takeWhile (fun c=>!cs.contains c) = l.take o /\ l.dropWhile (fun c=>!cs.contains c) = l.drop o
 | []=>.inl ⟨rfl,rfl,rfl⟩
 | c :: r=>by
  cases hc:cs.contains c with
  | true=>exact .inr ⟨0,by simp only [Lib.indexAny,hc,if_true];rfl,Nat.succ_pos _,by simp only [List.takeWhile_cons,hc,Bool.not_true];rfl,by simp only [List.dropWhile_cons,hc,Bool.not_true];rfl⟩
  | false =>
   rcases indexAny_up cs r with ⟨h1,h2,h3⟩ | ⟨o,h1,h2,h3,h4⟩
   ·exact .inl ⟨by simp only [Lib.indexAny,hc,h1];rfl,by simp only [List.takeWhile_cons,hc,Bool.not_false,if_true,h2],by simp only [List.dropWhile_cons,hc,Bool.not_false,if_true,h3]⟩
   ·have hne:((o:Int) == -1) = false:=by rw [beq_eq_false_iff_ne];omega
    exact .inr ⟨o + 1,by simp only [Lib.indexAny,hc,h1];rw [if_neg Bool.false_ne_true,if_neg (by rw [hne];exact Bool.false_ne_true)];rfl,Nat.succ_lt_succ h2,by simp only [List.takeWhile_cons,hc,Bool.not_false,if_true,h3,List.take_succ_cons],by simp only [List.dropWhile_cons,hc,Bool.not_false,if_true,h4,List.drop_succ_cons]⟩
def upV (x:List UInt8 × List UInt8):Value:=.tuple #[.string (str x.1),.string (str x.2)]
theorem upTo0_any (s cs:ByteArray) (p:UInt8 -> Bool) (w:World) (hp:∀ c,cs.data.toList.contains c = p c) (hs:s.size <= 16777216) (h2:2 <= cs.size) (hcs:cs.size <= 100) (ha:cs.data.toList.all (fun c=>decide (c.toNat < 128)) = true) :
  Calls Tryz.prog 117 #[.string s,.int .i64 0,.string cs] w fun e w'=>e = .returned (upV (upL p s.data.toList)) /\ Below w.heap.size w w':=by
 have HI:=hide (fun w2=>indexAny_any s cs w2 h2 hcs hs ha)
 have hup:upL p s.data.toList = (s.data.toList.takeWhile (fun c=>!cs.data.toList.contains c),s.data.toList.dropWhile (fun c=>!cs.data.toList.contains c)):=by
  unfold upL;rw [show (fun c=>!p c) = (fun c=>!cs.data.toList.contains c) from funext fun c=>by rw [hp]]
 rcases indexAny_up cs.data.toList s.data.toList with ⟨i1,i2,i3⟩ | ⟨o,i1,i2,i3,i4⟩
 ·rw [i1] at HI;have HR:Hid (upV (upL p s.data.toList) = .tuple #[.string s,.string ⟨#[]⟩]):=hide (by rw [hup,i2,i3];unfold upV;rw [str_of];rfl);clear hup i1 i2 i3 ha hp;go_enter Tryz.func117,Tryz.ntmps117;go_wp2_with fail;refine (HI.out _).mono ?_;rintro e w1 ⟨rfl,hb1⟩;have HB:=hide hb1;clear hb1;go_wp2_with fail;go_ret2;exact ⟨by rw [HR.out];rfl,HB.out⟩
 ·rw [i1] at HI;rw [toList_length] at i2
  have HR:Hid (upV (upL p s.data.toList) = .tuple #[.string (s.extract 0 o),.string (s.extract o s.size)]):=hide (by
   rw [hup,i3,i4];unfold upV;rw [show str (s.data.toList.take o) = s.extract 0 o from ext_list (by rw [str_toList,extract_list,List.drop_zero]),show str (s.data.toList.drop o) = s.extract o s.size from ext_list (by rw [str_toList,extract_end])])
  have q0:(0:Int) <= o:=by omega
  have q1:(o:Int) <= s.size:=by omega
  have q2:IntKind.i64.wrap (o:Int) = (o:Int):=IntWalk.i64_in _ (by omega);have q3:IntKind.i64.wrap (0 + (o:Int)) = (o:Int):=by rw [Int.zero_add];exact q2
  clear hup i1 i2 i3 i4 ha hp;go_enter Tryz.func117,Tryz.ntmps117;go_wp2_with fail;refine (HI.out _).mono ?_;rintro e w1 ⟨rfl,hb1⟩;have HB:=hide hb1;clear hb1;go_wp2_with fail;go_quiet (fail)
  try go_wp2_with fail
  go_ret2;exact ⟨by rw [HR.out];rfl,HB.out.trans ⟨rfl,rfl,rfl,Nat.le_refl _,fun _ _=>rfl⟩⟩
def up1L (p:UInt8 -> Bool) (l:List UInt8):List UInt8 × List UInt8:=(l.take 1 ++ (upL p (l.drop 1)).1,(upL p (l.drop 1)).2)
theorem upTo1_any (s cs:ByteArray) (p:UInt8 -> Bool) (w:World) (hp:∀ c,cs.data.toList.contains c = p c) (hs:s.size <= 16777216) (h1:1 <= s.size) (h2:2 <= cs.size) (hcs:cs.size <= 100) (ha:cs.data.toList.all (fun c=>decide (c.toNat < 128)) = true) :
  Calls Tryz.prog 117 #[.string s,.int .i64 1,.string cs] w fun e w'=>e = .returned (upV (up1L p s.data.toList)) /\ Below w.heap.size w w':=by
 have hez:(s.extract 1 s.size).size <= 16777216:=by rw [ByteArray.size_extract];omega
 have hel:(s.extract 1 s.size).data.toList = s.data.toList.drop 1:=extract_end s 1;have HI:=hide (fun w2=>indexAny_any (s.extract 1 s.size) cs w2 h2 hcs hez ha);rw [hel] at HI
 have hup:upL p (s.data.toList.drop 1) = ((s.data.toList.drop 1).takeWhile (fun c=>!cs.data.toList.contains c),(s.data.toList.drop 1).dropWhile (fun c=>!cs.data.toList.contains c)):=by
  unfold upL;rw [show (fun c=>!p c) = (fun c=>!cs.data.toList.contains c) from funext fun c=>by rw [hp]]
 have r0:(1:Int) <= s.size:=by omega
 rcases indexAny_up cs.data.toList (s.data.toList.drop 1) with ⟨i1,i2,i3⟩ | ⟨o,i1,i2,i3,i4⟩
 ·rw [i1] at HI
  have HR:Hid (upV (up1L p s.data.toList) = .tuple #[.string s,.string ⟨#[]⟩]):=hide (by
   unfold up1L;rw [hup,i2,i3];unfold upV;rw [List.take_append_drop,str_of];rfl)
  clear hup i1 i2 i3 ha hp hel hez;go_enter Tryz.func117,Tryz.ntmps117;go_wp2_with fail;refine (HI.out _).mono ?_;rintro e w1 ⟨rfl,hb1⟩;have HB:=hide hb1;clear hb1;go_wp2_with fail;go_ret2;exact ⟨by rw [HR.out];rfl,HB.out⟩
 ·rw [i1] at HI;rw [List.length_drop,toList_length] at i2
  have HR:Hid (upV (up1L p s.data.toList) = .tuple #[.string (s.extract 0 (1 + o)),.string (s.extract (1 + o) s.size)]):=hide (by
   unfold up1L;rw [hup,i3,i4];unfold upV;rw [show str (s.data.toList.take 1 ++ (s.data.toList.drop 1).take o) = s.extract 0 (1 + o) from ext_list (by rw [str_toList,extract_list,List.drop_zero,List.take_add]),show str ((s.data.toList.drop 1).drop o) = s.extract (1 + o) s.size from ext_list (by rw [str_toList,extract_end,List.drop_drop])])
  have q0:(0:Int) <= 1 + (o:Int):=by omega
  have q1:1 + (o:Int) <= s.size:=by omega
  have q2:IntKind.i64.wrap (1 + (o:Int)) = 1 + (o:Int):=IntWalk.i64_in _ (by omega);have q3:(1 + (o:Int)).toNat = 1 + o:=by omega
  have q4:(0:Int) <= o:=by omega
  clear hup i1 i2 i3 i4 ha hp hel hez;go_enter Tryz.func117,Tryz.ntmps117;go_wp2_with fail;refine (HI.out _).mono ?_;rintro e w1 ⟨rfl,hb1⟩;have HB:=hide hb1;clear hb1;go_wp2_with fail;go_quiet (fail)
  try go_wp2_with fail
  go_ret2;exact ⟨by rw [HR.out];rfl,HB.out.trans ⟨rfl,rfl,rfl,Nat.le_refl _,fun _ _=>rfl⟩⟩
theorem isMark_len {l:List UInt8} (h:l.length < 2):isMarkB l = false:=by
 match l,h with
 | [],_=>rfl
 | [a],_=>unfold isMarkB;split <;> first | rfl | (rename_i e;simp at e)
theorem isMark_head {a:UInt8} {r:List UInt8} (h:a ≠ 60):isMarkB (a :: r) = false:=by
 unfold isMarkB;split
 ·rename_i e;exact absurd (List.cons.inj e).1 h
 ·rfl
theorem isMark_mk (c:UInt8) (r:List UInt8):isMarkB (60 :: c :: r) = if c = 33 \/ c = 63 then true else if c = 47 then !r.isEmpty else letterB c:=by unfold isMarkB;rfl
theorem hasPrefix_60 (a:UInt8) (r:List UInt8):Lib.hasPrefix (a :: r) [60] = decide (a = 60):=by
 unfold Lib.hasPrefix;show ((60 == a) && true) = _
 rw [Bool.and_true]
 by_cases h:a = 60
 ·subst h;rfl
 ·rw [decide_eq_false h];exact beq_false_of_ne (fun e=>h e.symm)
theorem isMark_any (s:ByteArray) (w:World) (hs:s.size <= 16777216) :
  Calls Tryz.prog 66 #[.string s] w fun e w'=>e = .returned (.bool (isMarkB s.data.toList)) /\ w = w':=by
 have hlen:=toList_length s
 by_cases h2:s.size < 2
 ·have HR:=hide (isMark_len (l:=s.data.toList) (by rw [hlen];exact h2));clear hlen;go_enter Tryz.func66,Tryz.ntmps66;go_wp2_with fail
  all_goals first | (exact absurd h2 ‹_›) | skip
  go_ret;exact ⟨ret_bool HR.out.symm,rfl⟩
 ·have h0:0 < s.size:=by omega
  have h1:1 < s.size:=by omega
  have e0:=drop_cons s 0 h0;rw [List.drop_zero] at e0;have e1:=drop_cons s 1 h1;have hl:s.data.toList = s[0] :: s[1] :: s.data.toList.drop 2:=by rw [<- e1];exact e0
  have n2:¬ s.size < 2:=h2
  by_cases ha:s[0] = 60
  ·have HP:Hid (Lib.hasPrefix s.data.toList (⟨#[60]⟩:ByteArray).data.toList = true):=hide (by
    show Lib.hasPrefix s.data.toList [60] = true
    rw [hl,hasPrefix_60];exact decide_eq_true ha)
   have hmk:isMarkB s.data.toList = if s[1] = 33 \/ s[1] = 63 then true else if s[1] = 47 then !(s.data.toList.drop 2).isEmpty else letterB s[1]:=by
    conv=>lhs;rw [hl,ha]
    exact isMark_mk _ _
   have hc256:=byte_lt s[1]
   by_cases h33:s[1] = 33
   ·have t33:((s[1].toNat:Int) == 33) = true:=tT 33 h33 (by omega);have HR:Hid (isMarkB s.data.toList = true):=hide (by rw [hmk,if_pos (.inl h33)]);clear hmk hl e0 e1 hlen ha;go_enter Tryz.func66,Tryz.ntmps66;go_wp2_with fail;refine (Tryz.strings_HasPrefix s _ _).mono ?_;rintro e w1 ⟨rfl,hw⟩;subst hw;rw [HP.out];go_wp2_with fail;go_ret;exact ⟨ret_bool HR.out.symm,rfl⟩
   ·have t33:((s[1].toNat:Int) == 33) = false:=tF 33 h33 (by omega)
    by_cases h63:s[1] = 63
    ·have t63:((s[1].toNat:Int) == 63) = true:=tT 63 h63 (by omega);have HR:Hid (isMarkB s.data.toList = true):=hide (by rw [hmk,if_pos (.inr h63)]);clear hmk hl e0 e1 hlen ha;go_enter Tryz.func66,Tryz.ntmps66;go_wp2_with fail;refine (Tryz.strings_HasPrefix s _ _).mono ?_;rintro e w1 ⟨rfl,hw⟩;subst hw;rw [HP.out];go_wp2_with fail;go_ret;exact ⟨ret_bool HR.out.symm,rfl⟩
    ·have t63:((s[1].toNat:Int) == 63) = false:=tF 63 h63 (by omega);rw [if_neg (by rintro (h | h);exact h33 h;exact h63 h)] at hmk
     by_cases h47:s[1] = 47
     ·have t47:((s[1].toNat:Int) == 47) = true:=tT 47 h47 (by omega);rw [if_pos h47] at hmk
      have HR:Hid (isMarkB s.data.toList = decide ((2:Int) < s.size)):=hide (by
       rw [hmk];have hd:(s.data.toList.drop 2).length = s.size - 2:=by rw [List.length_drop,hlen]
       cases hdl:s.data.toList.drop 2 with
       | nil=>rw [hdl] at hd;exact (decide_eq_false (by simp at hd;omega)).symm
       | cons a r=>rw [hdl] at hd;exact (decide_eq_true (by simp at hd;omega)).symm)
      clear hmk hl e0 e1 hlen ha;go_enter Tryz.func66,Tryz.ntmps66;go_wp2_with fail;refine (Tryz.strings_HasPrefix s _ _).mono ?_;rintro e w1 ⟨rfl,hw⟩;subst hw;rw [HP.out];go_wp2_with fail;go_ret;exact ⟨ret_bool (by rw [HR.out]),rfl⟩
     ·have t47:((s[1].toNat:Int) == 47) = false:=tF 47 h47 (by omega);rw [if_neg h47] at hmk;have HR:=hide hmk;clear hmk hl e0 e1 hlen ha;go_enter Tryz.func66,Tryz.ntmps66;go_wp2_with fail;refine (Tryz.strings_HasPrefix s _ _).mono ?_;rintro e w1 ⟨rfl,hw⟩;subst hw;rw [HP.out];go_wp2_with fail;refine (letterW_any _ _).mono ?_;rintro e w1 ⟨rfl,rfl⟩;rw [<- HR.out];go_wp2_with fail;go_ret;exact ⟨rfl,rfl⟩
  ·have HP:Hid (Lib.hasPrefix s.data.toList (⟨#[60]⟩:ByteArray).data.toList = false):=hide (by
    show Lib.hasPrefix s.data.toList [60] = false
    rw [hl,hasPrefix_60];exact decide_eq_false ha)
   have HR:Hid (isMarkB s.data.toList = false):=hide (by rw [hl];exact isMark_head ha);clear hl e0 e1 hlen ha;go_enter Tryz.func66,Tryz.ntmps66;go_wp2_with fail;refine (Tryz.strings_HasPrefix s _ _).mono ?_;rintro e w1 ⟨rfl,hw⟩;subst hw;rw [HP.out];go_wp2_with fail;go_ret;exact ⟨ret_bool HR.out.symm,rfl⟩
theorem firstMark_any (s:ByteArray) (w:World) (hs:s.size <= 16777216) :
  Calls Tryz.prog 48 #[.string s] w fun e w'=>e = .returned (.int .i64 (markN s.data.toList:Nat)) /\ w = w':=by
 have hlen:=toList_length s;go_enter Tryz.func48,Tryz.ntmps48;go_wp2_with fail;go_loop [6] (fun i=>∃ k:Nat,k <= s.size /\ i = .int .i64 k /\ Hid (markN s.data.toList = k + markN (s.data.toList.drop k))) (fun i=>s.size - (intOf i).toNat)
 case atStart=>exact ⟨0,Nat.zero_le _,rfl,hide (by rw [List.drop_zero,Nat.zero_add])⟩
 case round =>
  obtain ⟨k,hk,rfl,HM⟩:=hrel
  by_cases hlt:k < s.size
  ·have hd:=drop_cons s k hlt;have hel:(s.extract k s.size).data.toList = s.data.toList.drop k:=extract_end s k;have HI:=hide (isMark_any (s.extract k s.size) w (by rw [ByteArray.size_extract];omega));rw [hel] at HI;cases hm:isMarkB (s.data.toList.drop k) with
   | true =>
    rw [hm] at HI
    have HR:Hid (markN s.data.toList = k):=hide (by
     rw [HM.out,hd];rw [hd] at hm;unfold markN;rw [if_pos hm,Nat.add_zero])
    clear hd hel hm hlen;go_wp2_with fail;refine HI.out.mono ?_;rintro e w1 ⟨rfl,rfl⟩;go_wp2_with fail;go_ret;exact ⟨ret_int (by rw [HR.out]),rfl⟩
   | false =>
    rw [hm] at HI
    have HM2:Hid (markN s.data.toList = (k + 1) + markN (s.data.toList.drop (k + 1))):=hide (by
     rw [HM.out,hd];rw [hd] at hm
     conv=>lhs;unfold markN
     rw [if_neg (by rw [hm];exact Bool.false_ne_true)];omega)
    clear hd hel hm hlen;go_wp2_with fail;refine HI.out.mono ?_;rintro e w1 ⟨rfl,rfl⟩;go_wp2_with fail;go_round
    case rel=>exact ⟨k + 1,by omega,by go_num,HM2⟩
    case measure=>simp [intOf];omega
  ·obtain rfl:k = s.size:=by omega
   have HR:Hid (markN s.data.toList = s.size):=hide (by
    rw [HM.out,List.drop_eq_nil_of_le (by rw [hlen];exact Nat.le_refl _)];rfl)
   clear hlen;go_wp2_with fail;go_ret;exact ⟨ret_int (by rw [HR.out]),rfl⟩
theorem baList (b:ByteArray):b.toList = b.data.toList:=by
 conv=>lhs;rw [<- str_of b]
 exact str_list _
theorem ba_ne {a b:ByteArray} (h:a ≠ b):(a.toList == b.toList) = false:=by
 refine beq_false_of_ne (fun e=>h ?_);rw [baList,baList] at e;rw [<- str_of a,e,str_of]
theorem rawEnd_not {n l:List UInt8} (h:Lib.hasPrefix l [60,47] = false):rawEndB n l = false:=by
 unfold rawEndB;split
 ·simp [Lib.hasPrefix] at h
 ·rfl
theorem rawEnd_yes {l:List UInt8} (h:Lib.hasPrefix l [60,47] = true):∃ r,l = 60 :: 47 :: r:=by
 unfold Lib.hasPrefix at h;obtain ⟨r,hr⟩:=List.isPrefixOf_iff_prefix.1 h;exact ⟨r,hr.symm⟩
theorem rawEnd_mk (n r:List UInt8):rawEndB n (60 :: 47 :: r) = (decide (n.length < r.length) && (lowL (r.take n.length) == n && nameEndB (r.getD n.length 0))):=by unfold rawEndB;rfl
theorem idxHas (c:UInt8):∀ l:List UInt8,decide (0 <= Lib.indexByte l c) = l.contains c
 | []=>rfl
 | b :: l=>by
  have ih:=idxHas c l;unfold Lib.indexByte
  by_cases h:b = c
  ·subst h;simp
  ·simp only [List.contains_cons];rw [beq_false_of_ne (fun e:c = b=>h e.symm),Bool.false_or,<- ih];have hb:(b == c) = false:=beq_false_of_ne h;simp only [hb]
   by_cases h2:Lib.indexByte l c = -1
   ·simp [h2]
   ·have:(Lib.indexByte l c == -1) = false:=beq_false_of_ne h2;simp only [this];apply Bool.eq_iff_iff.2;simp only [decide_eq_true_eq,Bool.false_eq_true,if_false];omega
theorem nameEnd_index (c:UInt8):decide (0 <= Lib.indexByte (⟨#[32,9,10,12,13,47,62]⟩:ByteArray).data.toList c) = nameEndB c:=by
 show decide (0 <= Lib.indexByte [32,9,10,12,13,47,62] c) = nameEndB c
 rw [idxHas];unfold nameEndB whB;simp only [List.contains_cons,List.contains_nil,Bool.or_false,Bool.or_assoc]
theorem isRawEnd_any (s n:ByteArray) (w:World) (hs:s.size <= 16777216) (hn:n.size <= 16777216) :
  Calls Tryz.prog 121 #[.string s,.string n] w fun e w'=>e = .returned (.bool (rawEndB n.data.toList s.data.toList)) /\ Below w.heap.size w w':=by
 cases hp:Lib.hasPrefix s.data.toList [60,47] with
 | false =>
  have HR:Hid (rawEndB n.data.toList s.data.toList = false):=hide (rawEnd_not hp);have HP:Hid (Lib.hasPrefix s.data.toList (⟨#[60,47]⟩:ByteArray).data.toList = false):=hide hp;clear hp;go_enter Tryz.func121,Tryz.ntmps121;go_wp2_with fail;refine (Tryz.strings_CutPrefix s _ _).mono ?_;rintro e w1 ⟨rfl,hw⟩;subst hw;rw [HP.out];go_wp2_with fail;go_ret;exact ⟨ret_bool HR.out.symm,Below.refl _ _⟩
 | true =>
  obtain ⟨r,hr⟩:=rawEnd_yes hp;obtain ⟨T,hT⟩:∃ T:ByteArray,T = str r:=⟨_,rfl⟩
  have HP:Hid (Lib.hasPrefix s.data.toList (⟨#[60,47]⟩:ByteArray).data.toList = true):=hide hp
  have HT:Hid ((⟨(Lib.trimPrefix s.data.toList (⟨#[60,47]⟩:ByteArray).data.toList).toArray⟩:ByteArray) = T):=hide (by
   rw [hT];unfold Lib.trimPrefix;rw [show (⟨#[60,47]⟩:ByteArray).data.toList = [60,47] from rfl,hp,hr];rfl)
  have hTl:T.data.toList = r:=by rw [hT,str_toList]
  have hTs:T.size = r.length:=by rw [hT,str_size]
  have hrl:r.length <= 16777216:=by
   have:=congrArg List.length hr;rw [toList_length] at this;simp at this;omega
  have hmk:=(congrArg (rawEndB n.data.toList) hr).trans (rawEnd_mk _ _);rw [toList_length] at hmk
  by_cases hle:r.length <= n.size
  ·have g1:T.size <= n.size:=by rw [hTs];exact hle
   have HR:Hid (rawEndB n.data.toList s.data.toList = false):=hide (by rw [hmk,decide_eq_false (by omega)];rfl);clear hp hr hT hTl hTs hmk hrl;go_enter Tryz.func121,Tryz.ntmps121;go_wp2_with fail;refine (Tryz.strings_CutPrefix s _ _).mono ?_;rintro e w1 ⟨rfl,hw⟩;subst hw;rw [HP.out,HT.out];go_wp2_with fail
   all_goals first | (exact absurd g1 ‹_›) | skip
   go_ret;exact ⟨ret_bool HR.out.symm,Below.refl _ _⟩
  ·have g1:¬ T.size <= n.size:=by rw [hTs];exact hle
   rw [decide_eq_true (show n.size < r.length by omega),Bool.true_and] at hmk;have hlt:n.size < T.size:=by omega
   have hg:r.getD n.size 0 = T[n.size]:=by
    have e:=drop_cons T n.size hlt;rw [hTl] at e;rw [List.getD_eq_getElem?_getD,<- List.head?_drop,e];rfl
   rw [hg] at hmk;have hel:(T.extract 0 n.size).data.toList = r.take n.size:=by rw [extract_list,List.drop_zero,hTl]
   have HLOW:=hide (fun w2=>lower_any (T.extract 0 n.size) w2 (by rw [ByteArray.size_extract];omega));rw [hel] at HLOW;have hu:(T[n.size].toNat:Int).toNat.toUInt8 = T[n.size]:=by rw [Int.toNat_natCast];exact UInt8.ofNat_toNat
   have HU:=hide hu;have q1:(n.size:Int) <= T.size:=by omega
   have hc256:=byte_lt T[n.size];obtain ⟨L,hL⟩:∃ L,str (lowL (r.take n.size)) = L:=⟨_,rfl⟩
   have hLn:(lowL (r.take n.size) == n.data.toList) = decide (L = n):=by
    by_cases e:L = n
    ·rw [decide_eq_true e,beq_iff_eq];have h2:(str (lowL (r.take n.size))).data.toList = n.data.toList:=by rw [hL,e]
     rw [str_toList] at h2;exact h2
    ·rw [decide_eq_false e];exact beq_false_of_ne (fun h=>e (by rw [<- hL,h,str_of]))
   rw [hLn] at hmk;rw [hL] at HLOW;have HIX:=hide (nameEnd_index T[n.size]);clear hp hr hT hTl hTs hrl hg hel hu hL hLn
   by_cases hq:L = n
   ·subst hq;rw [decide_eq_true rfl,Bool.true_and] at hmk;have HMK:=hide hmk;clear hmk;go_enter Tryz.func121,Tryz.ntmps121;go_wp2_with fail;refine (Tryz.strings_CutPrefix s _ _).mono ?_;rintro e w1 ⟨rfl,hw⟩;subst hw;rw [HP.out,HT.out];go_wp2_with fail;refine (HLOW.out _).mono ?_;rintro e w2 ⟨rfl,hb⟩;have HB:=hide hb;clear hb;go_wp2_with fail;refine (Tryz.strings_IndexByte _ _ _).mono ?_;rintro e w3 ⟨rfl,rfl⟩;rw [HU.out];go_wp2_with fail;go_ret;exact ⟨ret_bool (by rw [HMK.out];exact HIX.out),HB.out⟩
   ·rw [decide_eq_false hq,Bool.false_and] at hmk;have tq:=ba_ne hq;have HMK:=hide hmk;clear hmk;go_enter Tryz.func121,Tryz.ntmps121;go_wp2_with fail;refine (Tryz.strings_CutPrefix s _ _).mono ?_;rintro e w1 ⟨rfl,hw⟩;subst hw;rw [HP.out,HT.out];go_wp2_with fail;refine (HLOW.out _).mono ?_;rintro e w2 ⟨rfl,hb⟩;have HB:=hide hb;clear hb;go_wp2_with fail;go_ret;exact ⟨ret_bool HMK.out.symm,HB.out⟩
theorem rawSize_any (s n:ByteArray) (w:World) (hs:s.size <= 16777216) (hn:n.size <= 16777216) :
  Calls Tryz.prog 103 #[.string s,.string n] w fun e w'=>e = .returned (.int .i64 (rawSizeL n.data.toList s.data.toList:Nat)) /\ Below w.heap.size w w':=by
 have hlen:=toList_length s
 by_cases hpl:n = ⟨#[112,108,97,105,110,116,101,120,116]⟩
 ·have HR:Hid (rawSizeL n.data.toList s.data.toList = s.size):=hide (by
   unfold rawSizeL;rw [if_pos (by rw [hpl];rfl),hlen])
  clear hlen;go_enter Tryz.func103,Tryz.ntmps103;go_wp2_with fail;go_ret;exact ⟨ret_int (by rw [HR.out]),Below.refl _ _⟩
 ·have tq:(n.toList == [112,108,97,105,110,116,101,120,116]) = false:=by
   have:=ba_ne hpl
   rwa [show (⟨#[112,108,97,105,110,116,101,120,116]⟩:ByteArray).toList = [112,108,97,105,110,116,101,120,116] from by rw [baList]] at this
  have hrs:rawSizeL n.data.toList s.data.toList = rawN n.data.toList s.data.toList:=by
   unfold rawSizeL
   rw [if_neg (fun h=>hpl (by
    have:=congrArg str h;rw [str_of] at this;exact this))]
  have HRS:=hide hrs;clear hrs;go_enter Tryz.func103,Tryz.ntmps103;go_wp2_with fail;go_loopw [12] (fun i wr=>∃ k:Nat,k <= s.size /\ i = .int .i64 k /\ Hid (rawN n.data.toList s.data.toList = k + rawN n.data.toList (s.data.toList.drop k)) /\ Hid (Below w.heap.size w wr)) (fun i _=>s.size - (intOf i).toNat)
  case atStart=>exact ⟨0,Nat.zero_le _,rfl,hide (by rw [List.drop_zero,Nat.zero_add]),hide (Below.refl _ _)⟩
  case round =>
   obtain ⟨k,hk,rfl,HM,HB⟩:=hrel
   by_cases hlt:k < s.size
   ·have hd:=drop_cons s k hlt;have hel:(s.extract k s.size).data.toList = s.data.toList.drop k:=extract_end s k;have HI:=hide (fun w2=>isRawEnd_any (s.extract k s.size) n w2 (by rw [ByteArray.size_extract];omega) hn);rw [hel] at HI;cases hm:rawEndB n.data.toList (s.data.toList.drop k) with
    | true =>
     rw [hm] at HI
     have HR:Hid (rawN n.data.toList s.data.toList = k):=hide (by
      rw [HM.out,hd];rw [hd] at hm;unfold rawN;rw [if_pos hm,Nat.add_zero])
     clear hd hel hm hlen;go_wp2_with fail;refine (HI.out _).mono ?_;rintro e w1 ⟨rfl,hb⟩;have HB2:=hide (HB.out.trans (hb.mono HB.out.size));clear hb;go_wp2_with fail;go_ret;exact ⟨ret_int (by rw [HRS.out,HR.out]),HB2.out⟩
    | false =>
     rw [hm] at HI
     have HM2:Hid (rawN n.data.toList s.data.toList = (k + 1) + rawN n.data.toList (s.data.toList.drop (k + 1))):=hide (by
      rw [HM.out,hd];rw [hd] at hm
      conv=>lhs;unfold rawN
      rw [if_neg (by rw [hm];exact Bool.false_ne_true)];omega)
     clear hd hel hm hlen;go_wp2_with fail;refine (HI.out _).mono ?_;rintro e w1 ⟨rfl,hb⟩;have HB2:=hide (HB.out.trans (hb.mono HB.out.size));clear hb;go_wp2_with fail;go_roundw
     case rel=>exact ⟨k + 1,by omega,by go_num,HM2,HB2⟩
     case measure=>simp [intOf];omega
   ·obtain rfl:k = s.size:=by omega
    have HR:Hid (rawN n.data.toList s.data.toList = s.size):=hide (by
     rw [HM.out,List.drop_eq_nil_of_le (by rw [hlen];exact Nat.le_refl _)];rfl)
    clear hlen;go_wp2_with fail;go_ret;exact ⟨ret_int (by rw [HRS.out,HR.out]),HB.out⟩
theorem hasPrefix_q (q a:UInt8) (r:List UInt8):Lib.hasPrefix (a :: r) [q] = decide (a = q):=by
 unfold Lib.hasPrefix;show ((q == a) && true) = _
 rw [Bool.and_true]
 by_cases h:a = q
 ·subst h;simp
 ·rw [decide_eq_false h];exact beq_false_of_ne (fun e=>h e.symm)
theorem quote_cut (q:UInt8) (l:List UInt8):(Lib.hasPrefix l [q] = true /\ ∃ r,l = q :: r /\ Lib.trimPrefix l [q] = r) \/ (Lib.hasPrefix l [q] = false /\ l.head? ≠ some q):=by
 cases l with
 | nil=>exact .inr ⟨rfl,by simp⟩
 | cons a r =>
  by_cases h:a = q
  ·subst h;have hp:Lib.hasPrefix (a :: r) [a] = true:=by rw [hasPrefix_q];exact decide_eq_true rfl
   refine .inl ⟨hp,r,rfl,?_⟩;unfold Lib.trimPrefix;rw [hp];rfl
  ·exact .inr ⟨by rw [hasPrefix_q];exact decide_eq_false h,by simpa using h⟩
theorem value_q1 (r:List UInt8):valueL (34 :: r) = (beforeC 34 r,afterC 34 r):=by unfold valueL;simp
theorem value_q2 (r:List UInt8):valueL (39 :: r) = (beforeC 39 r,afterC 39 r):=by unfold valueL;simp
theorem value_no {l:List UInt8} (h1:l.head? ≠ some 34) (h2:l.head? ≠ some 39):valueL l = upL valueEndB l:=by
 cases l with
 | nil=>rfl
 | cons c r =>
  unfold valueL;simp only;rw [if_neg (by simpa using h1),if_neg (by simpa using h2)]
theorem valueEnd_has (c:UInt8):(⟨#[32,9,10,12,13,62]⟩:ByteArray).data.toList.contains c = valueEndB c:=by
 show ([32,9,10,12,13,62]:List UInt8).contains c = valueEndB c
 unfold valueEndB whB;simp only [List.contains_cons,List.contains_nil,Bool.or_false,Bool.or_assoc]
theorem idxQ (k:Nat) (h:k < 2) (w:World):(Instr.index 142 (Value.agg #[.string ⟨#[34]⟩,.string ⟨#[39]⟩]) (.int .i64 k)).run Tryz.prog w = .ok (.string (if k = 0 then ⟨#[34]⟩ else ⟨#[39]⟩)) w:=by
 match k,h with
 | 0,_=>rfl
 | 1,_=>rfl
theorem readValue_any (s:ByteArray) (w:World) (hs:s.size <= 16777216) :
  Calls Tryz.prog 147 #[.string s] w fun e w'=>e = .returned (upV (valueL s.data.toList)) /\ Below w.heap.size w w':=by
 have hlen:=toList_length s;have i0:∀ w:World,(Instr.index 142 (Value.agg #[.string ⟨#[34]⟩,.string ⟨#[39]⟩]) (.int .i64 0)).run Tryz.prog w = .ok (.string ⟨#[34]⟩) w:=fun w=>idxQ 0 (by omega) w
 have i1:∀ w:World,(Instr.index 142 (Value.agg #[.string ⟨#[34]⟩,.string ⟨#[39]⟩]) (.int .i64 1)).run Tryz.prog w = .ok (.string ⟨#[39]⟩) w:=fun w=>idxQ 1 (by omega) w
 have HU0:=hide (fun w2=>upTo0_any s ⟨#[32,9,10,12,13,62]⟩ valueEndB w2 valueEnd_has hs (by decide) (by decide) (by decide));go_enter Tryz.func147,Tryz.ntmps147;go_wp2_with fail;go_loopw [12] (fun i wr=>∃ k:Nat,k <= 2 /\ i = .int .i64 k /\ Hid (1 <= k -> s.data.toList.head? ≠ some 34) /\ Hid (2 <= k -> s.data.toList.head? ≠ some 39) /\ Hid (wr = w)) (fun i _=>2 - (intOf i).toNat)
 case atStart=>exact ⟨0,Nat.zero_le _,rfl,hide (fun h=>absurd h (by omega)),hide (fun h=>absurd h (by omega)),hide rfl⟩
 case round =>
  obtain ⟨k,hk,rfl,H1,H2,HW⟩:=hrel;obtain rfl:=HW.out
  match k,hk with
  | 0,_ =>
   rcases quote_cut 34 s.data.toList with ⟨hp,r,hr,htr⟩ | ⟨hp,hno⟩
   ·obtain ⟨T,hT⟩:∃ T:ByteArray,T = str r:=⟨_,rfl⟩
    have HP:Hid (Lib.hasPrefix s.data.toList (⟨#[34]⟩:ByteArray).data.toList = true):=hide hp
    have HT:Hid ((⟨(Lib.trimPrefix s.data.toList (⟨#[34]⟩:ByteArray).data.toList).toArray⟩:ByteArray) = T):=hide (by
     rw [hT];exact congrArg str htr)
    have hTl:T.data.toList = r:=by rw [hT,str_toList]
    have hTs:T.size <= 70368744177664:=by
     have:=congrArg List.length hr;rw [hlen,List.length_cons] at this;rw [hT,str_size];omega
    have HC:=hide (fun w2=>strCut_any T 34 w2 hTs);rw [hTl] at HC;have HR:Hid (valueL s.data.toList = (beforeC 34 r,afterC 34 r)):=hide (by rw [hr];exact value_q1 r);clear hp hr htr hT hTl hTs;go_wp2_with fail;refine (Tryz.strings_CutPrefix s _ _).mono ?_;rintro e w1 ⟨rfl,hw⟩;subst hw;rw [HP.out,HT.out];go_wp2_with fail;refine (HC.out _).mono ?_;rintro e w2 ⟨rfl,hb⟩;have HB:=hide hb;clear hb;unfold cutV;go_wp2_with fail;go_ret2;exact ⟨by rw [HR.out];rfl,HB.out⟩
   ·have HP:Hid (Lib.hasPrefix s.data.toList (⟨#[34]⟩:ByteArray).data.toList = false):=hide hp;have HN:=hide hno;clear hp hno;go_wp2_with fail;refine (Tryz.strings_CutPrefix s _ _).mono ?_;rintro e w1 ⟨rfl,hw⟩;subst hw;rw [HP.out];go_wp2_with fail;go_roundw
    case rel=>exact ⟨0 + 1,by omega,by go_num,hide (fun _=>HN.out),hide (fun h=>absurd h (by omega)),by first | exact hide trivial | exact hide rfl | exact trivial⟩
    case measure=>simp [intOf]
  | 1,_ =>
   rcases quote_cut 39 s.data.toList with ⟨hp,r,hr,htr⟩ | ⟨hp,hno⟩
   ·obtain ⟨T,hT⟩:∃ T:ByteArray,T = str r:=⟨_,rfl⟩
    have HP:Hid (Lib.hasPrefix s.data.toList (⟨#[39]⟩:ByteArray).data.toList = true):=hide hp
    have HT:Hid ((⟨(Lib.trimPrefix s.data.toList (⟨#[39]⟩:ByteArray).data.toList).toArray⟩:ByteArray) = T):=hide (by
     rw [hT];exact congrArg str htr)
    have hTl:T.data.toList = r:=by rw [hT,str_toList]
    have hTs:T.size <= 70368744177664:=by
     have:=congrArg List.length hr;rw [hlen,List.length_cons] at this;rw [hT,str_size];omega
    have HC:=hide (fun w2=>strCut_any T 39 w2 hTs);rw [hTl] at HC;have HR:Hid (valueL s.data.toList = (beforeC 39 r,afterC 39 r)):=hide (by rw [hr];exact value_q2 r);clear hp hr htr hT hTl hTs;go_wp2_with fail;refine (Tryz.strings_CutPrefix s _ _).mono ?_;rintro e w1 ⟨rfl,hw⟩;subst hw;rw [HP.out,HT.out];go_wp2_with fail;refine (HC.out _).mono ?_;rintro e w2 ⟨rfl,hb⟩;have HB:=hide hb;clear hb;unfold cutV;go_wp2_with fail;go_ret2;exact ⟨by rw [HR.out];rfl,HB.out⟩
   ·have HP:Hid (Lib.hasPrefix s.data.toList (⟨#[39]⟩:ByteArray).data.toList = false):=hide hp;have HN:=hide hno;clear hp hno;go_wp2_with fail;refine (Tryz.strings_CutPrefix s _ _).mono ?_;rintro e w1 ⟨rfl,hw⟩;subst hw;rw [HP.out];go_wp2_with fail;go_roundw
    case rel=>exact ⟨1 + 1,by omega,by go_num,hide (fun _=>H1.out (by omega)),hide (fun _=>HN.out),by first | exact hide trivial | exact hide rfl | exact trivial⟩
    case measure=>simp [intOf]
  | 2,_ =>
   have HR:=hide (value_no (H1.out (by omega)) (H2.out (by omega)));go_wp2_with fail;refine (HU0.out _).mono ?_;rintro e w1 ⟨rfl,hb⟩;have HB:=hide hb;clear hb;unfold upV;go_wp2_with fail;go_ret2;exact ⟨by rw [HR.out];rfl,HB.out⟩
theorem at_form {w:World} {B:Nat} {v:Value} {l:List AtL} (h:w.ownsRow B 47 2 v l.length (atVals l)):∃ A c,v = .slice A l.length c:=by
 rcases h.2 with ⟨rfl,h0⟩ | ⟨g,cap,cur,rfl,_⟩
 ·rw [h0];exact ⟨_,_,rfl⟩
 ·exact ⟨_,_,rfl⟩
theorem at_cells {w:World} {B:Nat} {A:Option Addr} {n cap:Nat} {l:List AtL} (h:w.ownsRow B 47 2 (.slice A n cap) l.length (atVals l)) (k:Nat) (f:AtL) (hk:l[k]? = some f) :
  ∃ a,A = some a /\ w.cell? (a.add (k * 2)) = some (.string (str f.1)) /\ w.cell? { block:=(a.add (k * 2)).block,off:=(a.add (k * 2)).off + 1 } = some (.string (str f.2)):=by
 rcases h.2 with ⟨_,h0⟩ | ⟨g,cap',cur,hv,hr⟩
 ·rw [List.eq_nil_of_length_eq_zero h0] at hk;simp at hk
 ·obtain ⟨a1,a2⟩:=atVals_at hk;rw [hv] at h;have hA:A = some ⟨g,0,none⟩:=by injection hv
  refine ⟨⟨g,0,none⟩,hA,h.cells (g:=g) rfl _ _ a1,?_⟩;have e3:({ block:=((⟨g,0,none⟩:Addr).add (k * 2)).block,off:=((⟨g,0,none⟩:Addr).add (k * 2)).off + 1 }:Addr) = (⟨g,0,none⟩:Addr).add (k * 2 + 1):=by rw [<- Addr.add_add];rfl
  rw [e3];exact h.cells (g:=g) rfl _ _ a2
theorem row_kept {w w':World} {B:Nat} {e:TypeId} {sz n:Nat} {v:Value} {xs:List Value} (h:w.ownsRow B e sz v n xs) (hb:Below w.heap.size w w'):w'.ownsRow B e sz v n xs :=
 h.kept (row:=none) ⟨hb.os,hb.tape,hb.output,hb.size,fun k hk _=>hb.block k hk⟩ (by cases hv:v.ownBlock <;> simp)
theorem box_kept {w w':World} {b:Nat} {t:TypeId} {v:Value} (h:Box w b t v) (hb:Below w.heap.size w w'):Box w' b t v:=(hb.block b (lt_of_block h)).trans h
theorem countsF_any (P1 P2 n:ByteArray) (b:Nat) (w:World) (hb:Box w b 9 (.string n)) :
  Calls Tryz.prog 148 #[.agg #[.string P1,.string P2],.pointer (some ⟨b,0,none⟩)] w fun e w'=>e = .returned (.bool (P1.toList == n.toList)) /\ Below w.heap.size w w':=by
 have hc:∀ o,(w.alloc o).cell? ⟨b,0,none⟩ = some (.string n):=fun o=>(box_kept hb ((Below.refl _ _).alloc (Nat.le_refl _) o)).cell
 have HB:=hide (fun o=>(Below.refl w.heap.size w).alloc (Nat.le_refl _) o);clear hb;go_enter Tryz.func148,Tryz.ntmps148;go_wp2_with fail;go_ret;exact ⟨rfl,HB.out _⟩
theorem indexAt_any (B:Nat) (v:Value) (l:List AtL) (n:ByteArray) (b:Nat) (w:World) (h:w.ownsRow B 47 2 v l.length (atVals l)) (hl:l.length <= 1000000) (hb:Box w b 9 (.string n)) :
  Calls Tryz.prog 63 #[v,.func (.func 148) #[] #[.pointer (some ⟨b,0,none⟩)]] w fun e w'=>∃ i:Int,e = .returned (.int .i64 i) /\ decide (0 <= i) = (l.any fun a=>a.1 == n.data.toList) /\ Below w.heap.size w w':=by
 obtain ⟨A,cap,rfl⟩:=at_form h;have H:=hide h;have HBX:=hide hb;clear h hb;go_enter Tryz.func63,Tryz.ntmps63;go_wp2_with fail;go_loopw [8] (fun iv wr=>∃ k:Nat,k <= l.length /\ iv = .int .i64 k /\ Hid (Below w.heap.size w wr) /\ Hid (((l.drop k).any fun a=>a.1 == n.data.toList) = (l.any fun a=>a.1 == n.data.toList))) (fun iv _=>l.length - (intOf iv).toNat)
 case atStart=>exact ⟨0,Nat.zero_le _,rfl,hide (Below.refl _ _),hide rfl⟩
 case round =>
  obtain ⟨k,hk,rfl,HB,HG⟩:=hrel;have hk6:k <= 1000000:=by omega
  by_cases hlt:k < l.length
  ·obtain ⟨a,rfl,c0,c1⟩:=at_cells (row_kept H.out HB.out) k _ (List.getElem?_eq_getElem hlt);have hdr:l.drop k = l[k] :: l.drop (k + 1):=List.drop_eq_getElem_cons hlt;have HG2:=HG.out;rw [hdr] at HG2;obtain ⟨p,hp⟩:∃ p,p = l[k]'hlt:=⟨_,rfl⟩
   rw [<- hp] at c0 c1 HG2;obtain ⟨P1,hP1⟩:∃ P1,P1 = str p.1:=⟨_,rfl⟩
   obtain ⟨P2,hP2⟩:∃ P2,P2 = str p.2:=⟨_,rfl⟩
   rw [<- hP1] at c0;rw [<- hP2] at c1;have HLT:=hide hlt;have HF:=hide (countsF_any P1 P2 n b wr (box_kept HBX.out HB.out));have t1:(P1.toList == n.toList) = (p.1 == n.data.toList):=by rw [hP1,str_list,bytes_list]
   rw [t1] at HF;cases he:(p.1 == n.data.toList) with
   | true =>
    rw [he] at HF
    have HV:Hid ((l.any fun a=>a.1 == n.data.toList) = true):=hide (by
     rw [<- HG2,List.any_cons,he,Bool.true_or])
    clear he hdr HG2 hp hP1 hP2 t1;go_wp2_with fail;refine HF.out.mono ?_;rintro e w1 ⟨rfl,hb⟩;have HB2:=hide (HB.out.trans (hb.mono HB.out.size));clear hb;go_wp2_with fail;go_ret;exact ⟨k,rfl,by rw [HV.out];exact decide_eq_true (by omega),HB2.out⟩
   | false =>
    rw [he] at HF
    have HGN:Hid (((l.drop (k + 1)).any fun a=>a.1 == n.data.toList) = (l.any fun a=>a.1 == n.data.toList)):=hide (by
     rw [<- HG2,List.any_cons,he,Bool.false_or])
    clear he hdr HG2 hp hP1 hP2 t1;go_wp2_with fail;refine HF.out.mono ?_;rintro e w1 ⟨rfl,hb⟩;have HB2:=hide (HB.out.trans (hb.mono HB.out.size));clear hb;go_wp2_with fail;go_roundw
    case rel=>exact ⟨k + 1,HLT.out,by go_num,HB2,HGN⟩
    case measure=>simp [intOf];have:=HLT.out;omega
  ·have HV:Hid ((l.any fun a=>a.1 == n.data.toList) = false):=hide (by
    rw [<- HG.out,List.drop_eq_nil_of_le (by omega)];rfl)
   go_wp2_with fail;go_ret;exact ⟨-1,rfl,by rw [HV.out];rfl,HB.out⟩
theorem containsAt_any (B:Nat) (v:Value) (l:List AtL) (n:ByteArray) (b:Nat) (w:World) (h:w.ownsRow B 47 2 v l.length (atVals l)) (hl:l.length <= 1000000) (hb:Box w b 9 (.string n)) :
  Calls Tryz.prog 44 #[v,.func (.func 148) #[] #[.pointer (some ⟨b,0,none⟩)]] w fun e w'=>e = .returned (.bool (l.any fun a=>a.1 == n.data.toList)) /\ Below w.heap.size w w':=by
 have HI:=hide (indexAt_any B v l n b w h hl hb);clear h hb;go_enter Tryz.func44,Tryz.ntmps44;go_wp2_with fail;refine HI.out.mono ?_;rintro e w1 ⟨i,rfl,hi,hb⟩;have HV:=hide hi;have HB:=hide hb;clear hi hb;go_wp2_with fail;go_ret;exact ⟨ret_bool HV.out,HB.out⟩
theorem counts_any (B:Nat) (v:Value) (l:List AtL) (n:ByteArray) (w:World) (h:w.ownsRow B 47 2 v l.length (atVals l)) (hl:l.length <= 1000000) :
  Calls Tryz.prog 120 #[v,.string n] w fun e w'=>e = .returned (.bool (countsB l n.data.toList)) /\ Below w.heap.size w w':=by
 have hk:=(Below.refl w.heap.size w).alloc (Nat.le_refl _) (.cells #[.string n] 9)
 have hbx:Box (w.alloc (.cells #[.string n] 9)) w.heap.size 9 (.string n):=by
  show (w.heap.push _)[w.heap.size]? = _
  exact Array.getElem?_push_size
 have HC:=hide (containsAt_any B v l n w.heap.size _ (row_kept h hk) hl hbx);obtain ⟨A,cap,rfl⟩:=at_form h;have HK:=hide hk;clear h hk hbx
 by_cases h30:l.length < 30
 ·have HR:Hid (countsB l n.data.toList = !(l.any fun a=>a.1 == n.data.toList)):=hide (by unfold countsB;rw [decide_eq_true h30,Bool.true_and]);go_enter Tryz.func120,Tryz.ntmps120;go_wp2_with fail
  all_goals first | (exact absurd h30 ‹_›) | skip
  refine HC.out.mono ?_;rintro e w1 ⟨rfl,hb⟩;have HB:=hide (HK.out.trans (hb.mono HK.out.size));clear hb;go_wp2_with fail;go_ret;exact ⟨ret_bool (by rw [HR.out]),HB.out⟩
 ·have HR:Hid (countsB l n.data.toList = false):=hide (by unfold countsB;rw [decide_eq_false h30,Bool.false_and]);go_enter Tryz.func120,Tryz.ntmps120;go_wp2_with fail
  all_goals first | (exact absurd ‹_› h30) | skip
  go_ret;exact ⟨ret_bool (by rw [HR.out]),HK.out⟩
theorem trimW_left (s:ByteArray) (w:World) :
  Calls Tryz.prog 118 #[.string s,.string ⟨#[32,9,10,12,13]⟩] w fun e w'=>e = .returned (.string (str (s.data.toList.dropWhile whB))) /\ Below w.heap.size w w':=by
 refine (Any.strings_TrimLeft_laid Tryz.lays161 (by kernel_rfl) s ⟨#[32,9,10,12,13]⟩ w (by decide) (ascii_of_all (by decide))).mono ?_;rintro e w1 ⟨rfl,hb⟩;refine ⟨?_,hb⟩
 have:(fun b=>(⟨#[32,9,10,12,13]⟩:ByteArray).data.toList.contains b) = whB:=funext fun c=>by
  show ([32,9,10,12,13]:List UInt8).contains c = whB c
  unfold whB;simp only [List.contains_cons,List.contains_nil,Bool.or_false]
 unfold Lib.trimLeftS;rw [this];rfl
theorem trimS_left (s:ByteArray) (w:World) :
  Calls Tryz.prog 118 #[.string s,.string ⟨#[32,9,10,12,13,47]⟩] w fun e w'=>e = .returned (.string (str (s.data.toList.dropWhile whs))) /\ Below w.heap.size w w':=by
 refine (Any.strings_TrimLeft_laid Tryz.lays161 (by kernel_rfl) s ⟨#[32,9,10,12,13,47]⟩ w (by decide) (ascii_of_all (by decide))).mono ?_;rintro e w1 ⟨rfl,hb⟩;refine ⟨?_,hb⟩
 have:(fun b=>(⟨#[32,9,10,12,13,47]⟩:ByteArray).data.toList.contains b) = whs:=funext fun c=>by
  show ([32,9,10,12,13,47]:List UInt8).contains c = whs c
  unfold whs whB;simp only [List.contains_cons,List.contains_nil,Bool.or_false,Bool.or_assoc]
 unfold Lib.trimLeftS;rw [this];rfl
def ACell (w:World) (b:Nat) (x y:ByteArray):Prop:=w.heap[b]? = some (.cells #[.string x,.string y] 47 (0,0))
theorem ACell.cell0 {w:World} {b:Nat} {x y:ByteArray} (h:ACell w b x y):w.cell? ⟨b,0,none⟩ = some (.string x):=by rw [Lib.cell_of_heap h];rfl
theorem ACell.cell1 {w:World} {b:Nat} {x y:ByteArray} (h:ACell w b x y):w.cell? ⟨b,1,none⟩ = some (.string y):=by rw [Lib.cell_of_heap h];rfl
theorem ACell.free {w:World} {b:Nat} {x y:ByteArray} (h:ACell w b x y) (i:Nat):w.frozen? ⟨b,i,none⟩ = false:=Lib.frozen_of_heap h i
theorem ACell.kept {w w':World} {b:Nat} {x y:ByteArray} (h:ACell w b x y) (hb:Below w.heap.size w w'):ACell w' b x y:=(hb.block b (lt_of_block h)).trans h
theorem ACell.put0 {w:World} {b:Nat} {x y:ByteArray} (h:ACell w b x y) (u:ByteArray):ACell (w.setCell ⟨b,0,none⟩ (.string u)) b u y:=heap_put (j:=0) _ h
theorem ACell.put1 {w:World} {b:Nat} {x y:ByteArray} (h:ACell w b x y) (u:ByteArray):ACell (w.setCell ⟨b,1,none⟩ (.string u)) b x u:=heap_put (j:=1) _ h
theorem ACell.far {w:World} {b g j:Nat} {x y:ByteArray} (h:ACell w b x y) (hne:b ≠ g) (u:Value):ACell (w.setCell ⟨g,j,none⟩ u) b x y:=(Below.heap_setCell _ _ _ b (fun e=>hne (by rw [e]))).trans h
theorem acell_new (w:World):ACell (w.alloc (.cells #[.string ⟨#[]⟩,.string ⟨#[]⟩] 47)) w.heap.size ⟨#[]⟩ ⟨#[]⟩:=by
 show (w.heap.push _)[w.heap.size]? = _
 exact Array.getElem?_push_size
theorem acell_of (w:World) (x y:ByteArray):ACell (w.alloc (.cells #[.string x,.string y] 47)) w.heap.size x y:=by
 show (w.heap.push _)[w.heap.size]? = _
 exact Array.getElem?_push_size
theorem ACell.alloc {w:World} {b:Nat} {x y:ByteArray} (h:ACell w b x y) (o:Obj):ACell (w.alloc o) b x y:=h.kept ((Below.refl _ _).alloc (Nat.le_refl _) o)
theorem attrEnd_has (c:UInt8):(⟨#[32,9,10,12,13,47,62,61]⟩:ByteArray).data.toList.contains c = attrEndB c:=by
 show ([32,9,10,12,13,47,62,61]:List UInt8).contains c = attrEndB c
 unfold attrEndB nameEndB whB;simp only [List.contains_cons,List.contains_nil,Bool.or_false,Bool.or_assoc]
theorem nameEnd_has (c:UInt8):(⟨#[32,9,10,12,13,47,62]⟩:ByteArray).data.toList.contains c = nameEndB c:=by
 show ([32,9,10,12,13,47,62]:List UInt8).contains c = nameEndB c
 unfold nameEndB whB;simp only [List.contains_cons,List.contains_nil,Bool.or_false,Bool.or_assoc]
def attrV (x:AtL × List UInt8):Value:=.tuple #[.agg #[.string (str x.1.1),.string (str x.1.2)],.string (str x.2)]
theorem attrL_no {dec:List UInt8 -> List UInt8} {c:UInt8} {r:List UInt8} (h:((upL attrEndB r).2.dropWhile whB).head? ≠ some 61):attrL dec (c :: r) = ((lowL (c :: (upL attrEndB r).1),[]),(upL attrEndB r).2):=by
 unfold attrL;simp only;split
 ·rename_i b e;rw [e] at h;exact absurd rfl h
 ·rfl
theorem attrL_yes {dec:List UInt8 -> List UInt8} {c:UInt8} {r b:List UInt8} (h:(upL attrEndB r).2.dropWhile whB = 61 :: b):attrL dec (c :: r) = ((lowL (c :: (upL attrEndB r).1),dec (valueL (b.dropWhile whB)).1),(valueL (b.dropWhile whB)).2):=by
 unfold attrL;simp only;rw [h];rfl
theorem valueL_len2 (l:List UInt8):(valueL l).1.length <= l.length:=by
 unfold valueL;cases l with
 | nil=>exact Nat.le_refl _
 | cons c r =>
  simp only;split
  ·exact Nat.le_trans (List.takeWhile_sublist _).length_le (Nat.le_succ _)
  ·split
   ·exact Nat.le_trans (List.takeWhile_sublist _).length_le (Nat.le_succ _)
   ·exact (List.takeWhile_sublist _).length_le
theorem readAttr_any (s:ByteArray) (w:World) (hs:s.size <= 16777216) (h0:0 < s.size) (hE:EnvE w) :
  Calls Tryz.prog 119 #[.string s] w fun e w'=>e = .returned (attrV (attrL decE s.data.toList)) /\ Below w.heap.size w w':=by
 have hlen:=toList_length s
 obtain ⟨c,r,hl⟩:∃ c r,s.data.toList = c :: r:=by
  cases h:s.data.toList with
  | nil=>rw [h] at hlen;simp at hlen;omega
  | cons c r=>exact ⟨c,r,rfl⟩
 have hU:=fun w2=>upTo1_any s ⟨#[32,9,10,12,13,47,62,61]⟩ attrEndB w2 attrEnd_has hs (by omega) (by decide) (by decide) (by decide)
 rw [hl] at hU;have hu2:=upL_len attrEndB r;rw [hl,List.length_cons] at hlen;have hup:up1L attrEndB (c :: r) = (c :: (upL attrEndB r).1,(upL attrEndB r).2):=rfl;rw [hup] at hU;obtain ⟨N,hN⟩:∃ N,N = c :: (upL attrEndB r).1:=⟨_,rfl⟩
 obtain ⟨R,hR⟩:∃ R,R = (upL attrEndB r).2:=⟨_,rfl⟩
 have hNl:N.length <= 16777216:=by rw [hN,List.length_cons];omega
 have hRl:R.length <= 16777216:=by rw [hR];omega
 rw [<- hN,<- hR] at hU;have hLOW:=fun w2=>lower_any (str N) w2 (by rw [str_size];omega)
 have hTW:=fun w2=>trimW_left (str R) w2
 rw [str_toList] at hLOW hTW;have HU:=hide hU;have HLOW:=hide hLOW;have HTW:=hide hTW;clear hU hLOW hTW;rcases quote_cut 61 (R.dropWhile whB) with ⟨hp,b,hb,htr⟩ | ⟨hp,hno⟩
 ·obtain ⟨T,hT⟩:∃ T:ByteArray,T = str b:=⟨_,rfl⟩
  have HT:Hid ((⟨(Lib.trimPrefix (str (R.dropWhile whB)).data.toList (⟨#[61]⟩:ByteArray).data.toList).toArray⟩:ByteArray) = T):=hide (by
   rw [hT,str_toList];exact congrArg str htr)
  have HP:Hid (Lib.hasPrefix (str (R.dropWhile whB)).data.toList (⟨#[61]⟩:ByteArray).data.toList = true):=hide (by rw [str_toList];exact hp)
  have hbl:b.length <= 16777216:=by
   have h1:=drop_len whB R;rw [hb,List.length_cons] at h1;omega
  have hTl:T.data.toList = b:=by rw [hT,str_toList]
  have HTT:=hide (fun w2=>trimW_left T w2);rw [hTl] at HTT;have hvl:(b.dropWhile whB).length <= 16777216:=Nat.le_trans (drop_len whB b) hbl;obtain ⟨V,hV⟩:∃ V,V = b.dropWhile whB:=⟨_,rfl⟩
  rw [<- hV] at HTT hvl;have hRV:=fun w2=>readValue_any (str V) w2 (by rw [str_size];exact hvl)
  rw [str_toList] at hRV;have hX:=valueL_len2 V;obtain ⟨X,hXe⟩:∃ X,X = (valueL V).1:=⟨_,rfl⟩
  obtain ⟨Y,hYe⟩:∃ Y,Y = (valueL V).2:=⟨_,rfl⟩
  have hRV2:∀ w2,Calls Tryz.prog 147 #[.string (str V)] w2 fun e w'=>e = .returned (upV (X,Y)) /\ Below w2.heap.size w2 w':=by
   rw [hXe,hYe];exact hRV
  have HRV:=hide hRV2;have HDEC:=hide (fun w2 h=>entDecode_any (str X) w2 (by rw [str_size,hXe];omega) h);rw [str_toList] at HDEC;have HV:Hid (attrL decE s.data.toList = ((lowL N,decE X),Y)):=hide (by rw [hl,attrL_yes (by rw [<- hR];exact hb),<- hN,<- hV,<- hXe,<- hYe]);have HE:=hide hE;clear hE hb htr hT hbl hTl hvl hV hRV hX hXe hYe hRV2;clear hp hN hR hl hlen hu2 hup;go_enter Tryz.func119,Tryz.ntmps119;go_wp2_with fail;refine (HU.out _).mono ?_;rintro e w1 ⟨rfl,hb1⟩;have b1:=acell_new w;have HA1:=hide (b1.kept hb1);have HB1:=hide (((Below.refl w.heap.size w).alloc (Nat.le_refl _) (.cells #[.string ⟨#[]⟩,.string ⟨#[]⟩] 47)).trans (hb1.mono (by rw [World.size_alloc];exact Nat.le_succ _)));clear hb1 b1;unfold upV;go_wp2_with fail;refine (HLOW.out _).mono ?_;rintro e w2 ⟨rfl,hb2⟩;have HA2:=hide (HA1.out.kept hb2);have HB2:=hide (HB1.out.trans (hb2.mono HB1.out.size));have hlt2:w.heap.size < w2.heap.size:=lt_of_block HA2.out;clear hb2;go_wp2_with fail;refine (HTW.out _).mono ?_;rintro e w3 ⟨rfl,hb3⟩;have A3:=(HA2.out.alloc _).kept hb3;have C3:=(acell_of w2 (str (lowL N)) ⟨#[]⟩).kept hb3;have HB3:=hide ((HB2.out.alloc HB2.out.size _).trans (hb3.mono (HB2.out.alloc HB2.out.size _).size));clear hb3;have HA3:=hide A3;have HC3:=hide C3;clear A3 C3;go_wp2_with fail;refine (Tryz.strings_CutPrefix _ _ _).mono ?_;rintro e w4 ⟨rfl,hw⟩;subst hw;rw [HP.out,HT.out]
  go_wp2_with fail;refine (HTT.out _).mono ?_;rintro e w5 ⟨rfl,hb5⟩;have HA5:=hide (HA3.out.kept hb5);have HC5:=hide (HC3.out.kept hb5);have HB5:=hide (HB3.out.trans (hb5.mono HB3.out.size));clear hb5;go_wp2_with fail;refine (HRV.out _).mono ?_;rintro e w6 ⟨rfl,hb6⟩;have HA6:=hide (HA5.out.kept hb6);have HC6:=hide (HC5.out.kept hb6);have HB6:=hide (HB5.out.trans (hb6.mono HB5.out.size));clear hb6;unfold upV;go_wp2_with fail;refine (HDEC.out _ (HE.out.kept HB6.out)).mono ?_;rintro e w7 ⟨rfl,hb7⟩;have A7:=HA6.out.kept hb7;have C7:=HC6.out.kept hb7;have HB7:=hide (HB6.out.trans (hb7.mono HB6.out.size));clear hb7;have g1:=C7.free 1;have g1':=C7.cell1;have C8:=C7.put1 (str (decE X));have A8:=A7.far (j:=1) (Nat.ne_of_lt hlt2) (.string (str (decE X)));have k0:=C8.cell0;have k1:=C8.cell1;have f0:=A8.free 0;have f0':=A8.cell0;have A9:=A8.put0 (str (lowL N));have f1:=A9.free 1;have f1':=A9.cell1;have A10:=A9.put1 (str (decE X));have hfa:=A10.cell0;have hfb:=A10.cell1;have HBF:=hide (((HB7.out.setCell (p:=⟨w2.heap.size,1,none⟩) (Nat.le_of_lt hlt2) (.string (str (decE X)))).setCell (p:=⟨w.heap.size,0,none⟩) (Nat.le_refl _) (.string (str (lowL N)))).setCell (p:=⟨w.heap.size,1,none⟩) (Nat.le_refl _) (.string (str (decE X))));clear A7 C7 C8 A8 A9 A10;go_wp2_with fail;refine bodyPost_ret (v:=.tuple #[.agg #[.string (str (lowL N)),.string (str (decE X))],.string (str Y)]) (by simp [results,Tryz.f119,go_sem,hfa,hfb]) rfl ?_
  exact ⟨by rw [HV.out];rfl,HBF.out⟩
 ·have HV:Hid (attrL decE s.data.toList = ((lowL N,[]),R)):=hide (by rw [hl,attrL_no (by rw [<- hR];exact hno),<- hN,<- hR]);have HP:Hid (Lib.hasPrefix (str (R.dropWhile whB)).data.toList (⟨#[61]⟩:ByteArray).data.toList = false):=hide (by rw [str_toList];exact hp);clear hp hno hN hR hl hlen hu2 hup;go_enter Tryz.func119,Tryz.ntmps119;go_wp2_with fail;refine (HU.out _).mono ?_;rintro e w1 ⟨rfl,hb1⟩;have b1:=acell_new w;have HA1:=hide (b1.kept hb1);have HB1:=hide (((Below.refl w.heap.size w).alloc (Nat.le_refl _) (.cells #[.string ⟨#[]⟩,.string ⟨#[]⟩] 47)).trans (hb1.mono (by rw [World.size_alloc];exact Nat.le_succ _)));clear hb1 b1;unfold upV;go_wp2_with fail;refine (HLOW.out _).mono ?_;rintro e w2 ⟨rfl,hb2⟩;have HA2:=hide (HA1.out.kept hb2);have HB2:=hide (HB1.out.trans (hb2.mono HB1.out.size));have hlt2:w.heap.size < w2.heap.size:=lt_of_block HA2.out;clear hb2;go_wp2_with fail;refine (HTW.out _).mono ?_;rintro e w3 ⟨rfl,hb3⟩;have A3:=(HA2.out.alloc _).kept hb3;have C3:=(acell_of w2 (str (lowL N)) ⟨#[]⟩).kept hb3;have HB3:=hide ((HB2.out.alloc HB2.out.size _).trans (hb3.mono (HB2.out.alloc HB2.out.size _).size));clear hb3;have f0:=A3.free 0;have f0':=A3.cell0;have k0:=C3.cell0;have k1:=C3.cell1;have A4:=A3.put0 (str (lowL N));have f1:=A4.free 1;have f1':=A4.cell1;have A5:=A4.put1 ⟨#[]⟩;have hfa:=A5.cell0;have hfb:=A5.cell1
  have HBF:=hide ((HB3.out.setCell (p:=⟨w.heap.size,0,none⟩) (Nat.le_refl _) (.string (str (lowL N)))).setCell (p:=⟨w.heap.size,1,none⟩) (Nat.le_refl _) (.string ⟨#[]⟩));clear A3 C3 A4 A5;go_wp2_with fail;refine (Tryz.strings_CutPrefix _ _ _).mono ?_;rintro e w4 ⟨rfl,hw⟩;subst hw;rw [HP.out];go_wp2_with fail;refine bodyPost_ret (v:=.tuple #[.agg #[.string (str (lowL N)),.string ⟨#[]⟩],.string (str R)]) (by simp [results,Tryz.f119,go_sem,hfa,hfb]) rfl ?_;exact ⟨by rw [HV.out];rfl,HBF.out⟩
def tagV (t:Option (List UInt8 × List AtL × List UInt8)) (v:Value):Value:=match t with
  | none=>.tuple #[.string ⟨#[]⟩,v,.string ⟨#[]⟩,.bool false]
  | some x=>.tuple #[.string (str x.1),v,.string (str x.2.2),.bool true]
def tagAts (t:Option (List UInt8 × List AtL × List UInt8)):List AtL:=match t with
  | none=>[]
  | some x=>x.2.1
theorem tagL_some {dec:List UInt8 -> List UInt8} {l:List UInt8} {A:List AtL} {b:List UInt8} (h:attrsLL dec [] (upL nameEndB l).2 = some (A,b)):tagL dec l = some (lowL (upL nameEndB l).1,A,b):=by
 unfold tagL;rw [h]
theorem tagL_none {dec:List UInt8 -> List UInt8} {l:List UInt8} (h:attrsLL dec [] (upL nameEndB l).2 = none):tagL dec l = none:=by
 unfold tagL;rw [h]
theorem counts_len {A:List AtL} {n:List UInt8} (h:countsB A n = true):A.length < 30:=by
 unfold countsB at h;rw [Bool.and_eq_true] at h;exact of_decide_eq_true h.1
def szStr:Value -> Nat
  | .string t=>t.size
  | _=>0
theorem own_ne {B:Nat} {v:Value} {l:List AtL} {W0 w:World} (h:ABuf B v l W0 w):v.ownBlock ≠ some w.heap.size:=fun e=>absurd (h.1.lt _ e).2 (Nat.lt_irrefl _)
theorem ABuf.set {B:Nat} {v:Value} {l:List AtL} {W0 w:World} {b:Nat} (h:ABuf B v l W0 w) (hB:B <= b) (hne:v.ownBlock ≠ some b) (j:Nat) (x:Value):ABuf B v l W0 (w.setCell ⟨b,j,none⟩ x) :=
 ⟨h.1.kept (row:=some b) ⟨rfl,rfl,rfl,by simp [World.setCell],fun k _ hk=>Below.heap_setCell _ _ _ k (fun e=>hk (by rw [e]))⟩ (.inr hne),h.2.1.setCell (p:=⟨b,j,none⟩) hB _,by simpa [World.setCell] using h.2.2⟩
theorem readTag_any (s:ByteArray) (w:World) (hs:s.size <= 16777216) (hE:EnvE w) :
  Calls Tryz.prog 100 #[.string s] w fun e w'=>∃ v,e = .returned (tagV (tagL decE s.data.toList) v) /\ w'.ownsRow w.heap.size 47 2 v (tagAts (tagL decE s.data.toList)).length (atVals (tagAts (tagL decE s.data.toList))) /\ Below w.heap.size w w':=by
 have hlen:=toList_length s;have hU:=fun w2=>upTo0_any s ⟨#[32,9,10,12,13,47,62]⟩ nameEndB w2 nameEnd_has hs (by decide) (by decide) (by decide)
 have hu2:=upL_len nameEndB s.data.toList;rw [hlen] at hu2;obtain ⟨N,hN⟩:∃ N,N = (upL nameEndB s.data.toList).1:=⟨_,rfl⟩
 obtain ⟨R,hR⟩:∃ R,R = (upL nameEndB s.data.toList).2:=⟨_,rfl⟩
 have hup:upL nameEndB s.data.toList = (N,R):=by rw [hN,hR]
 rw [hup] at hU;have hNl:N.length <= 16777216:=by rw [hN];omega
 have hRl:R.length <= 16777216:=by rw [hR];omega
 have hLOW:=fun w2=>lower_any (str N) w2 (by rw [str_size];omega)
 rw [str_toList] at hLOW
 have HSOME:Hid (∀ A b,attrsLL decE [] R = some (A,b) -> tagL decE s.data.toList = some (lowL N,A,b)):=hide (fun A b h=>by
  rw [hR] at h;rw [tagL_some h,<- hN])
 have HNONE:Hid (attrsLL decE [] R = none -> tagL decE s.data.toList = none):=hide (fun h=>by
  rw [hR] at h;exact tagL_none h)
 have HU:=hide hU;have HLOW:=hide hLOW;have HE:=hide hE;clear hE hU hLOW hN hR hup hu2 hlen;go_enter Tryz.func100,Tryz.ntmps100;go_wp2_with fail;refine (HU.out _).mono ?_;rintro e w1 ⟨rfl,hb1⟩;have HB1:=hide hb1;clear hb1;unfold upV;go_wp2_with fail;go_loopw [0,7] (fun sv v wr=>∃ (S:ByteArray) (A:List AtL),sv = .string S /\ S.size <= 16777216 /\ A.length <= 30 /\ Hid (ABuf w.heap.size v A w wr) /\ Hid (attrsLL decE A S.data.toList = attrsLL decE [] R)) (fun sv _ _=>szStr sv)
 case atStart=>exact ⟨_,[],rfl,by rw [str_size];exact hRl,by simp,hide (ABuf.nil HB1.out HB1.out.size),hide (by rw [str_toList])⟩
 case round =>
  obtain ⟨S,A,rfl,hS,hA,HB,HG⟩:=hrel;have hSl:=toList_length S;obtain ⟨D,hD⟩:∃ D,D = S.data.toList.dropWhile whs:=⟨_,rfl⟩
  have hDl:D.length <= S.size:=by rw [hD,<- hSl];exact drop_len whs _
  have hTR:=fun w2=>trimS_left S w2
  rw [<- hD] at hTR;have HTR:=hide hTR;clear hTR;rcases quote_cut 62 D with ⟨hp,b,hb,htr⟩ | ⟨hp,hno⟩
  ·obtain ⟨T,hT⟩:∃ T:ByteArray,T = str b:=⟨_,rfl⟩
   have HT:Hid ((⟨(Lib.trimPrefix (str D).data.toList (⟨#[62]⟩:ByteArray).data.toList).toArray⟩:ByteArray) = T):=hide (by
    rw [hT,str_toList];exact congrArg str htr)
   have HP:Hid (Lib.hasPrefix (str D).data.toList (⟨#[62]⟩:ByteArray).data.toList = true):=hide (by rw [str_toList];exact hp);have HV:Hid (tagL decE s.data.toList = some (lowL N,A,b)):=hide (HSOME.out A b (by rw [<- HG.out];exact attrsLL_end (by rw [<- hD];exact hb)));have HTE:=hide hT;clear hT hp hb htr hD hDl hSl;go_wp2_with fail;refine (HTR.out _).mono ?_;rintro e w2 ⟨rfl,hb2⟩;have HB2:=hide (HB.out.kept hb2);clear hb2;go_wp2_with fail;refine (Tryz.strings_CutPrefix _ _ _).mono ?_;rintro e w3 ⟨rfl,hw⟩;subst hw;rw [HP.out,HT.out];go_wp2_with fail;refine (HLOW.out _).mono ?_;rintro e w4 ⟨rfl,hb4⟩;have HB4:=hide (HB2.out.kept hb4);clear hb4;go_wp2_with fail;refine bodyPost_ret (v:=.tuple #[.string (str (lowL N)),u7,.string T,.bool true]) (by simp [results,Tryz.f100,go_sem]) rfl ?_;exact ⟨_,by rw [HV.out,HTE.out];rfl,by rw [HV.out];exact HB4.out.1,HB4.out.below⟩
  ·have HP:Hid (Lib.hasPrefix (str D).data.toList (⟨#[62]⟩:ByteArray).data.toList = false):=hide (by rw [str_toList];exact hp);obtain ⟨DS,hDS⟩:∃ DS:ByteArray,DS = str D:=⟨_,rfl⟩
   rw [<- hDS] at HTR HP;obtain ⟨X,hX⟩:∃ X:ByteArray,(⟨(Lib.trimPrefix DS.data.toList (⟨#[62]⟩:ByteArray).data.toList).toArray⟩:ByteArray) = X:=⟨_,rfl⟩
   have HX:=hide hX;clear hX;cases D with
   | nil =>
    have HV:Hid (tagL decE s.data.toList = none):=hide (HNONE.out (by rw [<- HG.out];exact attrsLL_nil hD.symm));have t0:DS.toList.isEmpty = true:=by rw [hDS,str_list];rfl
    have t1:DS.toList = []:=by rw [hDS,str_list]
    clear hDS hp hno hD hDl hSl;go_wp2_with fail;refine (HTR.out _).mono ?_;rintro e w2 ⟨rfl,hb2⟩;have HB2:=hide (HB.out.kept hb2);clear hb2;go_wp2_with fail;refine (Tryz.strings_CutPrefix _ _ _).mono ?_;rintro e w3 ⟨rfl,hw⟩;subst hw;rw [HP.out,HX.out];go_wp2_with fail;refine bodyPost_ret (v:=.tuple #[.string ⟨#[]⟩,.slice none 0 0,.string ⟨#[]⟩,.bool false]) (by simp [results,Tryz.f100,go_sem]) rfl ?_;exact ⟨_,by rw [HV.out];rfl,by rw [HV.out];exact World.ownsRow_nil _ _ _ 2,HB2.out.below⟩
   | cons c r =>
    have hc62:c ≠ 62:=by simpa using hno
    have t0:DS.toList.isEmpty = false:=by rw [hDS,str_list];rfl
    have hDz:DS.size = r.length + 1:=by rw [hDS,str_size];rfl
    have hRA:=fun w2 h=>readAttr_any DS w2 (by rw [hDz];simp at hDl;omega) (by omega) h
    have hstep:=attrsLL_go (dec:=decE) (A:=A) hD.symm hc62;have hxl:=attrL_len decE c r;rw [show DS.data.toList = c :: r from by rw [hDS,str_toList]] at hRA;obtain ⟨⟨⟨n,v⟩,q⟩,hx⟩:∃ x:AtL × List UInt8,attrL decE (c :: r) = x:=⟨_,rfl⟩
    rw [hx] at hRA hstep hxl;simp only [List.length_cons] at hDl;have hql:q.length < S.size:=by simp only at hxl;omega
    have HRA:=hide hRA;have HC:=hide (fun vv w2 h=>counts_any w.heap.size vv A (str n) w2 h (by omega));rw [str_toList] at HC;obtain ⟨NS,hNS⟩:∃ NS,NS = str n:=⟨_,rfl⟩
    obtain ⟨VS,hVS⟩:∃ VS,VS = str v:=⟨_,rfl⟩
    have HNS:=hide hNS;have HVS:=hide hVS;cases hcn:countsB A n with
    | true =>
     have hA30:=counts_len hcn;rw [hcn] at HC;simp only [hcn,if_true] at hstep;have HG2:Hid (attrsLL decE (A ++ [(n,v)]) (str q).data.toList = attrsLL decE [] R):=hide (by rw [str_toList,<- hstep];exact HG.out);unfold attrV at HRA;simp only [<- hNS,<- hVS] at HRA HC;clear hNS hVS hcn hx hxl hstep hDS hp hno hD hDl hSl hc62 hDz hRA;go_wp2_with fail;refine (HTR.out _).mono ?_;rintro e w2 ⟨rfl,hb2⟩;have B2:=HB.out.kept hb2;have hne:=own_ne B2;have HB2:=hide B2;clear hb2 B2;go_wp2_with fail;refine (Tryz.strings_CutPrefix _ _ _).mono ?_;rintro e w3 ⟨rfl,hw⟩;subst hw;rw [HP.out,HX.out];go_wp2_with fail;refine (HRA.out _ (HE.out.kept (HB2.out.alloc _).below)).mono ?_;rintro e w4 ⟨rfl,hb4⟩;have HB4:=hide ((HB2.out.alloc _).kept hb4);have A4:=(acell_new w3).kept hb4;have f0:=A4.free 0;have f0':=A4.cell0;have A5:=A4.put0 NS;have f1:=A5.free 1;have f1':=A5.cell1;have A6:=A5.put1 VS;have f2:=A6.free 0;have c0:=A6.cell0;have c1:=A6.cell1;have HA6:=hide A6;have HB6:=hide ((HB4.out.set HB2.out.2.2 hne 0 (.string NS)).set HB2.out.2.2 hne 1 (.string VS));clear hb4 A4 A5 A6;go_wp2_with fail;refine (HC.out _ _ HB6.out.1).mono ?_;rintro e w7 ⟨rfl,hb7⟩;have HB7:=hide (HB6.out.kept hb7);have A7:=HA6.out.kept hb7;have d0:=A7.cell0;have d1:=A7.cell1;clear hb7 A7;go_wp2_with (at_builtin;go_must (refine wpList_ats rfl _ _ rfl w.heap.size _ A rfl w (n,v) (HB7.out.alloc _) ⟨w7.heap.size,0,none⟩ rfl (by rw [Addr.add_lit,World.cell?_alloc_at _ _ _ _ rfl];show some (Value.string NS) = some (Value.string (str n));rw [HNS.out]) (by rw [Addr.add_lit,World.cell?_alloc_at _ _ _ _ rfl];show some (Value.string VS) = some (Value.string (str v));rw [HVS.out]) (by omega) ?_;intro v8 w8 hb8;have HB8:=hide hb8;clear hb8))
     go_roundw
     case rel=>exact ⟨str q,A ++ [(n,v)],rfl,by rw [str_size];omega,by rw [List.length_append];exact hA30,HB8,HG2⟩
     case measure=>show (str q).size < S.size;rw [str_size];exact hql
    | false =>
     rw [hcn] at HC;simp only [hcn,Bool.false_eq_true,if_false] at hstep;have HG2:Hid (attrsLL decE A (str q).data.toList = attrsLL decE [] R):=hide (by rw [str_toList,<- hstep];exact HG.out);unfold attrV at HRA;simp only [<- hNS,<- hVS] at HRA HC;clear hNS hVS hcn hx hxl hstep hDS hp hno hD hDl hSl hc62 hDz hRA;go_wp2_with fail;refine (HTR.out _).mono ?_;rintro e w2 ⟨rfl,hb2⟩;have B2:=HB.out.kept hb2;have hne:=own_ne B2;have HB2:=hide B2;clear hb2 B2;go_wp2_with fail;refine (Tryz.strings_CutPrefix _ _ _).mono ?_;rintro e w3 ⟨rfl,hw⟩;subst hw;rw [HP.out,HX.out];go_wp2_with fail;refine (HRA.out _ (HE.out.kept (HB2.out.alloc _).below)).mono ?_;rintro e w4 ⟨rfl,hb4⟩;have HB4:=hide ((HB2.out.alloc _).kept hb4);have A4:=(acell_new w3).kept hb4;have f0:=A4.free 0;have f0':=A4.cell0;have A5:=A4.put0 NS;have f1:=A5.free 1;have f1':=A5.cell1;have A6:=A5.put1 VS;have f2:=A6.free 0;have c0:=A6.cell0;have c1:=A6.cell1;have HA6:=hide A6;have HB6:=hide ((HB4.out.set HB2.out.2.2 hne 0 (.string NS)).set HB2.out.2.2 hne 1 (.string VS));clear hb4 A4 A5 A6;go_wp2_with fail;refine (HC.out _ _ HB6.out.1).mono ?_;rintro e w7 ⟨rfl,hb7⟩;have HB7:=hide (HB6.out.kept hb7);have A7:=HA6.out.kept hb7;have d0:=A7.cell0;have d1:=A7.cell1;clear hb7 A7;go_wp2_with fail;go_roundw
     case rel=>exact ⟨str q,A,rfl,by rw [str_size];omega,hA,HB7,HG2⟩
     case measure=>show (str q).size < S.size;rw [str_size];exact hql
end Go.Proofs.YtmgpmdfmkdhfgaaGreatDoor
