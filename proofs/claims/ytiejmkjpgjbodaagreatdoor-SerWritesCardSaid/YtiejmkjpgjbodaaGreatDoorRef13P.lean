import Derived.Test.YtiejmkjpgjbodaaGreatDoorBaseQ
namespace Go.Proofs.YtiejmkjpgjbodaaGreatDoor
set_option linter.unusedVariables false
set_option linter.unusedSimpArgs false
theorem drop_tw13 (p:UInt8 -> Bool):∀ l:List UInt8,l.drop (l.takeWhile p).length = l.dropWhile p
 | []=>rfl
 | c :: r=>by
  by_cases h:p c = true
  ·rw [List.takeWhile_cons_of_pos h,List.dropWhile_cons_of_pos h,List.length_cons,List.drop_succ_cons,drop_tw13 p r]
  ·rw [List.takeWhile_cons_of_neg h,List.dropWhile_cons_of_neg h];rfl
theorem take_tw13 (p:UInt8 -> Bool):∀ l:List UInt8,l.take (l.takeWhile p).length = l.takeWhile p
 | []=>rfl
 | c :: r=>by
  by_cases h:p c = true
  ·rw [List.takeWhile_cons_of_pos h,List.length_cons,List.take_succ_cons,take_tw13 p r]
  ·rw [List.takeWhile_cons_of_neg h];rfl
theorem tw_le13 (p:UInt8 -> Bool) (l:List UInt8):(l.takeWhile p).length <= l.length:=(List.takeWhile_sublist p).length_le
def untilN (p:UInt8 -> Bool) (l:List UInt8) (a:Nat):Nat:=a + ((l.drop a).takeWhile fun c=>!p c).length
theorem until_up (p:UInt8 -> Bool) (l:List UInt8) (a:Nat):upL p (l.drop a) = ((l.drop a).take (untilN p l a - a),l.drop (untilN p l a)):=by
 unfold upL untilN;rw [Nat.add_sub_cancel_left,take_tw13,<- List.drop_drop,drop_tw13]
theorem until_le {p:UInt8 -> Bool} {l:List UInt8} {a:Nat} (h:a <= l.length):a <= untilN p l a /\ untilN p l a <= l.length:=by
 unfold untilN;have:=tw_le13 (fun c=>!p c) (l.drop a);rw [List.length_drop] at this;omega
theorem until_past {p:UInt8 -> Bool} {l:List UInt8} {a:Nat} (h:l.length <= a):untilN p l a = a:=by
 unfold untilN;rw [List.drop_eq_nil_of_le h];rfl
theorem until_stop {p:UInt8 -> Bool} {l r:List UInt8} {a:Nat} {c:UInt8} (h:l.drop a = c :: r) (hc:p c = true):untilN p l a = a:=by
 unfold untilN;rw [h,List.takeWhile_cons_of_neg (by simp [hc])];rfl
theorem drop_succ13 {l r:List UInt8} {a:Nat} {c:UInt8} (h:l.drop a = c :: r):l.drop (a + 1) = r:=by
 rw [<- List.drop_drop,h];rfl
theorem until_step {p:UInt8 -> Bool} {l r:List UInt8} {a:Nat} {c:UInt8} (h:l.drop a = c :: r) (hc:p c = false):untilN p l a = untilN p l (a + 1):=by
 unfold untilN;rw [drop_succ13 h,h,List.takeWhile_cons_of_pos (by simp [hc]),List.length_cons];omega
def whiteN (l:List UInt8) (a:Nat):Nat:=untilN (fun c=>!whB c) l a
theorem white_drop (l:List UInt8) (a:Nat):l.drop (whiteN l a) = (l.drop a).dropWhile whB:=by
 have h:=congrArg Prod.snd (until_up (fun c=>!whB c) l a);have e:(fun c=>!(fun c=>!whB c) c) = whB:=by funext c;simp
 unfold upL at h;rw [e] at h;exact h.symm
def findAt (t:List UInt8):List UInt8 -> Option Nat
  | []=>none
  | c :: r=>if t.isPrefixOf (c :: r) = true then some 0 else (findAt t r).map (· + 1)
theorem findAt_le {t:List UInt8} (ht:t ≠ []):∀ {l:List UInt8} {k:Nat},findAt t l = some k -> k + t.length <= l.length
 | [],k,h=>by cases h
 | c :: r,k,h=>by
  unfold findAt at h
  by_cases hp:t.isPrefixOf (c :: r) = true
  ·rw [if_pos hp] at h;injection h with h;have:=(List.isPrefixOf_iff_prefix.1 hp).length_le;omega
  ·rw [if_neg hp] at h;obtain ⟨j,hj,rfl⟩:=Option.map_eq_some_iff.1 h;have:=findAt_le ht hj;simp only [List.length_cons];omega
theorem findAt_short {t:List UInt8}:∀ {l:List UInt8},l.length < t.length -> findAt t l = none
 | [],_=>rfl
 | c :: r,h=>by
  unfold findAt;rw [if_neg (fun hp=>by have:=(List.isPrefixOf_iff_prefix.1 hp).length_le;omega),findAt_short (by simp only [List.length_cons] at h;omega)];rfl
theorem cut_find (t:List UInt8):∀ l,cutAt t l = match findAt t l with | some k=>(l.take k,l.drop (k + t.length)) | none=>(l,[])
 | []=>rfl
 | c :: r=>by
  unfold cutAt findAt
  by_cases hp:t.isPrefixOf (c :: r) = true
  ·rw [if_pos hp,if_pos hp];simp
  ·rw [if_neg hp,if_neg hp,cut_find t r];cases findAt t r with
   | none=>rfl
   | some k=>simp only [Option.map_some];rw [show k + 1 + t.length = (k + t.length) + 1 by omega];rfl
theorem cut_one13 (c:UInt8):∀ l,cutAt [c] l = (beforeC c l,afterC c l)
 | []=>rfl
 | d :: r=>by
  unfold cutAt
  by_cases h:d = c
  ·subst h;rw [if_pos (by simp)];unfold beforeC afterC;rw [List.takeWhile_cons_of_neg (by simp),List.dropWhile_cons_of_neg (by simp)];rfl
  ·rw [if_neg (by simpa using fun e=>h e.symm),cut_one13 c r];unfold beforeC afterC;rw [List.takeWhile_cons_of_pos (by simpa using h),List.dropWhile_cons_of_pos (by simpa using h)]
def idxZ (t l:List UInt8) (a:Nat):Int:=match findAt t (l.drop a) with
  | some k=>((a + k:Nat):Int)
  | none=>-1
theorem idx_here {t l r:List UInt8} {a:Nat} {c:UInt8} (h:l.drop a = c :: r) (hp:t.isPrefixOf (c :: r) = true):idxZ t l a = a:=by
 unfold idxZ findAt;rw [h];simp only [hp,if_true];simp
theorem findAt_next {t r:List UInt8} {c:UInt8} (hp:t.isPrefixOf (c :: r) = false):findAt t (c :: r) = (findAt t r).map (· + 1):=by
 conv=>lhs;unfold findAt
 rw [if_neg (by rw [hp];decide)]
theorem idx_next {t l r:List UInt8} {a:Nat} {c:UInt8} (h:l.drop a = c :: r) (hp:t.isPrefixOf (c :: r) = false):idxZ t l a = idxZ t l (a + 1):=by
 unfold idxZ;rw [drop_succ13 h,h,findAt_next hp];cases hf:findAt t r with
 | none=>rfl
 | some k=>simp only [Option.map_some];omega
theorem idx_short {t l:List UInt8} {a:Nat} (h:l.length < a + t.length) (ha:a <= l.length):idxZ t l a = -1:=by
 unfold idxZ;rw [findAt_short (by rw [List.length_drop];omega)]
theorem attrsLL_skip {dec:List UInt8 -> List UInt8} {A:List AtL} {c:UInt8} {r:List UInt8} (h:whs c = true):attrsLL dec A (c :: r) = attrsLL dec A r:=by
 have hd:(c :: r).dropWhile whs = r.dropWhile whs:=List.dropWhile_cons_of_pos h;cases hr:r.dropWhile whs with
 | nil=>rw [attrsLL_nil (hd.trans hr),attrsLL_nil hr]
 | cons d q =>
  by_cases h62:d = 62
  ·subst h62;rw [attrsLL_end (hd.trans hr),attrsLL_end hr]
  ·rw [attrsLL_go (hd.trans hr) h62,attrsLL_go hr h62]
theorem attrsLL_none {dec:List UInt8 -> List UInt8} {A:List AtL}:attrsLL dec A [] = none:=attrsLL_nil rfl
def addC (P:List TokL) (t:List UInt8):List TokL:=if t = [] then P else match P.getLast? with
  | some u=>if u.kind = 1 then P.dropLast ++ [{ u with text:=u.text ++ t }] else P ++ [charsT t]
  | none=>[charsT t]
theorem addC_flush {L:List TokL} (h:EndsL L) (x t:List UInt8):addC (flushT L x) t = flushT L (x ++ t):=by
 unfold addC
 by_cases ht:t = []
 ·subst ht;rw [if_pos rfl,List.append_nil]
 ·rw [if_neg ht]
  by_cases hx:x = []
  ·subst hx;rw [List.nil_append];unfold flushT;rw [if_pos rfl,if_neg ht];cases hl:L.getLast? with
   | none=>rw [List.getLast?_eq_none_iff.1 hl];rfl
   | some u=>simp only;rw [if_neg (h u hl)]
  ·unfold flushT;rw [if_neg hx,if_neg (by simp [hx]),List.getLast?_concat];simp only;rw [if_pos (show (charsT x).kind = 1 from rfl),List.dropLast_concat];rfl
theorem mark_row {L:List TokL} {x:List UInt8} {m:MarkR} (h:m.1 = none -> m.2.1 = []) (h2:∀ t,m.1 = some t -> t.kind ≠ 1) :
  flushT (addT L x m).1 (addT L x m).2 = flushT (flushT L x ++ m.1.toList) m.2.1 /\ (EndsL L -> EndsL (addT L x m).1):=by
 unfold addT;cases hm:m.1 with
 | none =>
  rw [h hm];simp only [Option.toList,List.append_nil];exact ⟨by unfold flushT;simp,fun h=>h⟩
 | some t =>
  simp only [Option.toList];exact ⟨by first | rfl | trivial,fun _=>ends_snoc (h2 t hm)⟩
def beginsN (l:List UInt8):Nat:=match l with
  | c :: q=>if letterB c = true then 1 else if c = 47 then (match q with | []=>0 | d :: _=>if letterB d = true then 2 else 3) else if c = 33 \/ c = 63 then 4 else 0
  | []=>0
theorem letter_no:letterB 33 = false /\ letterB 63 = false /\ letterB 47 = false:=by decide +kernel
theorem isMark_cons (c:UInt8) (q:List UInt8):isMarkB (60 :: c :: q) = if c = 33 \/ c = 63 then true else if c = 47 then !q.isEmpty else letterB c:=rfl
theorem begins_cons (c:UInt8) (q:List UInt8):beginsN (c :: q) = if letterB c = true then 1 else if c = 47 then (match q with | []=>0 | d :: _=>if letterB d = true then 2 else 3) else if c = 33 \/ c = 63 then 4 else 0:=rfl
theorem begins_mark (r:List UInt8):isMarkB (60 :: r) = decide (beginsN r ≠ 0):=by
 cases r with
 | nil=>rfl
 | cons c q =>
  obtain ⟨n,hn⟩:∃ n,beginsN (c :: q) = n:=⟨_,rfl⟩
  rw [hn,isMark_cons];rw [begins_cons] at hn
  by_cases h1:c = 33 \/ c = 63
  ·have hl:letterB c = false:=by
    rcases h1 with rfl | rfl
    ·exact letter_no.1
    ·exact letter_no.2.1
   have h47:c ≠ 47:=by rcases h1 with rfl | rfl <;> decide
   rw [hl,if_neg (by decide),if_neg h47,if_pos h1] at hn;rw [if_pos h1,<- hn];rfl
  ·rw [if_neg h1]
   by_cases h47:c = 47
   ·subst h47;rw [letter_no.2.2,if_neg (by decide),if_pos rfl] at hn;rw [if_pos rfl];cases q with
    | nil=>rw [<- hn];rfl
    | cons d e =>
     simp only at hn;cases hd:letterB d with
     | true=>rw [hd,if_pos rfl] at hn;rw [<- hn];rfl
     | false=>rw [hd,if_neg (by decide)] at hn;rw [<- hn];rfl
   ·rw [if_neg h47];cases hd:letterB c with
    | true=>rw [hd,if_pos rfl] at hn;rw [<- hn];rfl
    | false=>rw [hd,if_neg (by decide),if_neg h47,if_neg h1] at hn;rw [<- hn];rfl
theorem markN_next {c:UInt8} {r:List UInt8} (h:isMarkB (c :: r) = false):markN (c :: r) = markN r + 1:=by
 conv=>lhs;unfold markN
 rw [if_neg (by rw [h];decide)]
theorem markN_here {c:UInt8} {r:List UInt8} (h:isMarkB (c :: r) = true):markN (c :: r) = 0:=by
 unfold markN;rw [if_pos h]
end Go.Proofs.YtiejmkjpgjbodaaGreatDoor
