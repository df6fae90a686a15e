import Derived.Test.YtiejmkjpgjbodaaGreatDoorRef13X
import Derived.Test.YtiejmkjpgjbodaaGreatDoorRef13Y
import Derived.Test.YtiejmkjpgjbodaaGreatDoorBaseR
namespace Go.Proofs.YtiejmkjpgjbodaaGreatDoor
open Go.RowKit
set_option linter.unusedVariables false
set_option linter.unusedSimpArgs false
set_option maxRecDepth 100000
theorem MarkS.more {B b N M:Nat} {s:ByteArray} {P:List TokL} {m:MarkR} {W0 w':World} {e:Ending} (h:MarkS B b s P m N W0 e w') (hN:N <= M):MarkS B b s P m M W0 e w':=by
 obtain ⟨k,h1,h2,h3,o,vs,h4,h5,h6⟩:=h;exact ⟨k,h1,h2,h3,o,vs,h4,h5,Nat.le_trans h6 hN⟩
theorem markup13_any (B b:Nat) (s:ByteArray) (o:Value) (vs:List TokV) (a:Nat) (r:List UInt8) (W0 w:World) (h:Sc B b s o vs W0 w) (hn:vs.length <= 16777216) (hs:s.size <= 16777216) (hd:s.data.toList.drop a = 60 :: r) (hb:beginsN r = 3 \/ beginsN r = 4) :
  Calls Tryz.prog 90 #[.pointer (some ⟨b,0,none⟩),.int .i64 a] w fun e w'=>MarkS B b s (vs.map Prod.fst) (markL decE r) (vs.length + 1) W0 e w':=by
 cases r with
 | nil=>rcases hb with hb | hb <;> cases hb
 | cons c q =>
  rw [begins_cons] at hb;cases hl:letterB c with
  | true=>rw [hl,if_pos rfl] at hb;omega
  | false =>
   rw [hl,if_neg (by decide)] at hb
   by_cases h47:c = 47
   ·subst h47;rw [if_pos rfl] at hb;cases q with
    | nil=>simp only at hb;omega
    | cons d e =>
     simp only at hb;cases hl2:letterB d with
     | true=>rw [hl2,if_pos rfl] at hb;omega
     | false =>
      by_cases h62:d = 62
      ·subst h62;exact markup_a1 B b s o vs a e W0 w h hn hs hd
      ·exact markup_a2 B b s o vs a d e W0 w h hn hs hd h62 hl2
   ·rw [if_neg h47] at hb
    by_cases h33:c = 33
    ·subst h33;cases h1:([45,45]:List UInt8).isPrefixOf q with
     | false=>exact markup_a6 B b s o vs a q W0 w h hn hs hd h1
     | true =>
      obtain ⟨q2,rfl⟩:=List.isPrefixOf_iff_prefix.1 h1;cases h2:([62]:List UInt8).isPrefixOf q2 with
      | true =>
       obtain ⟨q3,rfl⟩:=List.isPrefixOf_iff_prefix.1 h2;exact markup_a3 B b s o vs a q3 W0 w h hn hs hd
      | false =>
       cases h3:([45,62]:List UInt8).isPrefixOf q2 with
       | true =>
        obtain ⟨q3,rfl⟩:=List.isPrefixOf_iff_prefix.1 h3;exact markup_a4 B b s o vs a q3 W0 w h hn hs hd
       | false=>exact markup_a5 B b s o vs a q2 W0 w h hn hs hd h2 h3
    ·by_cases h63:c = 63
     ·subst h63;exact markup_a7 B b s o vs a q W0 w h hn hs hd
     ·rw [if_neg (fun e=>e.elim h33 h63)] at hb;omega
theorem flush_last {L:List TokL} {x:List UInt8} {t:TokL} (he:EndsL L) (h:(flushT L x).getLast? = some t) (hk:t.kind = 1):t.text = x:=by
 unfold flushT at h;split at h
 ·exact absurd hk (he t h)
 ·rw [List.getLast?_concat] at h;injection h with h;rw [<- h];rfl
structure At (s:ByteArray) (G:List TokL) (a:Nat) (vs:List TokV):Prop where
  ex:∃ L x,vs.map Prod.fst = flushT L x /\ EndsL L /\ scanL decE L x (s.data.toList.drop a) = G /\ x.length <= a
  len:vs.length <= 2 * a
theorem At.mark {s:ByteArray} {G:List TokL} {a:Nat} {vs:List TokV} {r:List UInt8} (h:At s G a vs) (hd:s.data.toList.drop a = 60 :: r) (hb:beginsN r ≠ 0) (ha:a < s.size) {k:Nat} (hk:k <= s.size) (hdk:s.data.toList.drop k = (markL decE r).2.2)
  {vs':List TokV} (hm:vs'.map Prod.fst = flushT (vs.map Prod.fst ++ (markL decE r).1.toList) (markL decE r).2.1) (hl:vs'.length <= vs.length + 2):At s G k vs' /\ a < k:=by
 obtain ⟨L,x,h1,h2,h3,h4⟩:=h.ex;have hmk:isMarkB (60 :: r) = true:=by rw [begins_mark];exact decide_eq_true hb
 obtain ⟨f1,f2,f3⟩:=mark_form decE r;obtain ⟨r1,r2⟩:=mark_row (L:=L) (x:=x) f2 (fun t ht=>(f1 t ht).2);have hla:=toList_length s;have hlk:=congrArg List.length hdk;have hlr:=congrArg List.length hd;rw [List.length_drop,hla] at hlk hlr;rw [List.length_cons] at hlr;have hak:a < k:=by omega
 have hxl:=addT_len L x (markL decE r);refine ⟨⟨⟨(addT L x (markL decE r)).1,(addT L x (markL decE r)).2,?_,r2 h2,?_,by omega⟩,?_⟩,hak⟩
 ·rw [hm,h1,r1]
 ·rw [hdk,<- h3,hd,scanL_mark decE L x hmk]
 ·have:=h.len;omega
theorem At.text {s:ByteArray} {G:List TokL} {a:Nat} {vs:List TokV} (h:At s G a vs) (ha:a < s.size) {t:Nat} (hat:a < t) (hts:t <= s.size) (hN:markN (s.data.toList.drop a) = t - a)
  {vs':List TokV} (hm:vs'.map Prod.fst = addC (vs.map Prod.fst) (decE ((s.data.toList.drop a).take (t - a)))) (hl:vs'.length <= vs.length + 1):At s G t vs':=by
 obtain ⟨L,x,h1,h2,h3,h4⟩:=h.ex;have hd:=drop_cons s a ha;have hla:=toList_length s;have hdl:=decE_len _ ((s.data.toList.drop a).take (t - a)) (Nat.le_refl _);rw [List.length_take,List.length_drop,hla] at hdl;refine ⟨⟨L,x ++ decE ((s.data.toList.drop a).take (t - a)),?_,h2,?_,by rw [List.length_append];omega⟩,by have:=h.len;omega⟩
 ·rw [hm,h1,addC_flush h2]
 ·rw [<- h3];have hpos:0 < markN (s.data.toList.drop a):=by omega
  rw [hd] at hpos hN ⊢;rw [scanL_text decE L x hpos,hN,<- hd,List.drop_drop]
  congr 2
  omega
theorem At.last {s:ByteArray} {G:List TokL} {a:Nat} {vs:List TokV} (h:At s G a vs) {p:TokV} (hp:vs.getLast? = some p) (hk:p.1.kind = 1):p.1.text.length <= a:=by
 obtain ⟨L,x,h1,h2,h3,h4⟩:=h.ex;have:(flushT L x).getLast? = some p.1:=by rw [<- h1,List.getLast?_map,hp];rfl
 rw [flush_last h2 this hk];exact h4
theorem At.done {s:ByteArray} {G:List TokL} {a:Nat} {vs:List TokV} (h:At s G a vs) (ha:s.size <= a):vs.map Prod.fst = G:=by
 obtain ⟨L,x,h1,h2,h3,h4⟩:=h.ex;rw [List.drop_eq_nil_of_le (by rw [toList_length];exact ha),scanL_nil] at h3;rw [h1,h3]
theorem Sc.new (w:World) (s:ByteArray):Sc w.heap.size w.heap.size s (.slice none 0 0) [] w (w.alloc (.cells #[.string s,.slice none 0 0] 110)) :=
 ⟨alloc_new_block w _,TRow.nil _ _,Nat.le_refl _,below_one' w _,by rw [World.size_alloc];exact Nat.le_succ _⟩
end Go.Proofs.YtiejmkjpgjbodaaGreatDoor
