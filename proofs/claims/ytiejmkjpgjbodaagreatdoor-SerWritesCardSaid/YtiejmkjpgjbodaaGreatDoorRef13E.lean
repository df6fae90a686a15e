import Derived.Test.YtiejmkjpgjbodaaGreatDoorRef13D
import Derived.Test.YtiejmkjpgjbodaaGreatDoorBaseN
import Derived.Test.YtiejmkjpgjbodaaGreatDoorBaseP
namespace Go.Proofs.YtiejmkjpgjbodaaGreatDoor
open Go.RowKit
set_option linter.unusedVariables false
set_option linter.unusedSimpArgs false
set_option maxRecDepth 100000
structure Sc (B b:Nat) (s:ByteArray) (o:Value) (vs:List TokV) (W0 w:World):Prop where
  cell:w.heap[b]? = some (.cells #[.string s,o] 110 (0,0))
  toks:TRow B o vs w
  base:B <= b
  below:Below B W0 w
  size:B <= w.heap.size
theorem Sc.c0 {B b:Nat} {s:ByteArray} {o:Value} {vs:List TokV} {W0 w:World} (h:Sc B b s o vs W0 w):w.cell? ⟨b,0,none⟩ = some (.string s):=by rw [Lib.cell_of_heap h.cell];rfl
theorem Sc.c1 {B b:Nat} {s:ByteArray} {o:Value} {vs:List TokV} {W0 w:World} (h:Sc B b s o vs W0 w):w.cell? ⟨b,1,none⟩ = some o:=by rw [Lib.cell_of_heap h.cell];rfl
theorem Sc.kept {B b:Nat} {s:ByteArray} {o:Value} {vs:List TokV} {W0 w w':World} (h:Sc B b s o vs W0 w) (hb:Below w.heap.size w w'):Sc B b s o vs W0 w' :=
 ⟨(hb.block b (lt_of_block h.cell)).trans h.cell,h.toks.kept hb,h.base,h.below.trans (hb.mono h.size),Nat.le_trans h.size hb.size⟩
theorem Sc.ne {B b:Nat} {s:ByteArray} {o:Value} {vs:List TokV} {W0 w:World} (h:Sc B b s o vs W0 w):o.ownBlock ≠ some b:=ownsRow_other h.toks.row (fun cur hc=>by
 rw [h.cell] at hc;injection hc with hc;injection hc with _ hc;exact absurd hc (by decide))
theorem storedS {B b:Nat} {s:ByteArray} {o:Value} {vs:List TokV} {t:TokL} {u:Value} {W0 w1 w2:World} {ob:Obj} {A:Option Addr} {n c:Nat} (h:Sc B b s o vs W0 w1)
  (h2:TRow B (.slice A n c) (vs ++ [(t,u)]) w2) (hg:(w1.alloc ob).grownBy w2 o.ownBlock) :
  w2.cell? ⟨b,1,none⟩ = some o /\ w2.frozen? ⟨b,1,none⟩ = false /\ Sc B b s (.slice A n c) (vs ++ [(t,u)]) W0 (w2.setCell ⟨b,1,none⟩ (.slice A n c)):=by
 have hlt:=lt_of_block h.cell;have hra:(w1.alloc ob).heap[b]? = some (.cells #[.string s,o] 110 (0,0)):=((below_one' w1 ob).block b hlt).trans h.cell;have hr2:w2.heap[b]? = some (.cells #[.string s,o] 110 (0,0)):=(hg.block b (lt_of_block hra) (fun e=>h.ne e.symm)).trans hra;have hza:B <= (w1.alloc ob).heap.size:=by rw [World.size_alloc];exact Nat.le_succ_of_le h.size
 have hW2:Below B W0 w2:=(h.below.alloc h.size ob).grown hg hza (fun k hk=>(h.toks.row.lt k hk).1);refine ⟨by rw [Lib.cell_of_heap hr2];rfl,Lib.frozen_of_heap hr2 1,heap_put (j:=1) _ hr2,?_,h.base,hW2.setCell (p:=⟨b,1,none⟩) h.base _,?_⟩
 ·refine h2.turned (row:=some b) ⟨rfl,rfl,rfl,by simp [World.setCell],fun k _ hk=>Below.heap_setCell _ _ _ k (fun e=>hk (by rw [e]))⟩ (fun r e cur=>?_);obtain rfl:=Option.some.inj e;rw [hr2];refine ⟨fun hc=>?_,fun hc=>?_⟩ <;> (injection hc with hc;injection hc with _ hc;exact absurd hc (by decide))
 ·have:=hg.size;simp [World.setCell];omega
theorem addC_last {P:List TokL} {u:TokL} {t:List UInt8} (ht:t ≠ []) (h:P.getLast? = some u):addC P t = if u.kind = 1 then P.dropLast ++ [{ u with text:=u.text ++ t }] else P ++ [charsT t]:=by
 unfold addC;rw [if_neg ht,h]
theorem addC_none {t:List UInt8} (ht:t ≠ []):addC [] t = [charsT t]:=by
 unfold addC;rw [if_neg ht];rfl
def ScP (B b:Nat) (s:ByteArray) (P:List TokL) (N:Nat) (W0 w':World):Prop:=∃ o' vs',Sc B b s o' vs' W0 w' /\ vs'.map Prod.fst = P /\ vs'.length <= N
set_option maxHeartbeats 4000000 in
theorem chars_empty (B b:Nat) (s:ByteArray) (o:Value) (vs:List TokV) (t:ByteArray) (W0 w:World) (h:Sc B b s o vs W0 w) (ht:t.data.toList = []) :
  Calls Tryz.prog 91 #[.pointer (some ⟨b,0,none⟩),.string t] w fun e w'=>e = .returned (.tuple #[]) /\ ScP B b s (vs.map Prod.fst) vs.length W0 w':=by
 have H:=hide h;have t1:t.toList = []:=by rw [bytes_list,ht]
 have t0:t.toList.isEmpty = true:=by rw [t1];rfl
 clear h ht;go_enter Tryz.func91,Tryz.ntmps91;go_wp2_with fail;refine bodyPost_ret (v:=.tuple #[]) (by simp [results,Tryz.f91,go_sem]) rfl ?_;exact ⟨rfl,o,vs,H.out,rfl,Nat.le_refl _⟩
set_option maxHeartbeats 8000000 in
theorem chars_append (B b:Nat) (s:ByteArray) (o:Value) (vs:List TokV) (t:ByteArray) (W0 w:World) (h:Sc B b s o vs W0 w) (hn:vs.length <= 16777216) (ht:t.data.toList ≠ [])
  (hk:∀ p,vs.getLast? = some p -> p.1.kind ≠ 1) :
  Calls Tryz.prog 91 #[.pointer (some ⟨b,0,none⟩),.string t] w fun e w'=>e = .returned (.tuple #[]) /\ ScP B b s (vs.map Prod.fst ++ [charsT t.data.toList]) (vs.length + 1) W0 w':=by
 have H:=hide h;have HN:=hide hn;have HTS:Hid (str t.data.toList = t):=hide (str_of t)
 have t0:t.toList.isEmpty = false:=by
  rw [bytes_list];cases hh:t.data.toList with
  | nil=>exact absurd hh ht
  | cons _ _=>rfl
 obtain ⟨A,c,rfl⟩:=h.toks.slice_len;have d1:=h.c1;obtain ⟨n,hnn⟩:∃ n,vs.length = n:=⟨_,rfl⟩
 have hcase:n = 0 \/ ∃ (a:Addr) (K:Int),A = some a /\ 0 < n /\ (K == 1) = false /\ w.cell? (a.add ((n - 1) * 4)) = some (.int .i64 K):=by
  rcases Nat.eq_zero_or_pos n with h0 | h0
  ·exact .inl h0
  ·refine .inr ?_;have hl:(vs.getLast?).isSome = true:=by rw [List.getLast?_isSome];intro e;rw [e] at hnn;simp at hnn;omega
   obtain ⟨p,hp⟩:=Option.isSome_iff_exists.1 hl;have hp2:vs[n - 1]? = some p:=by rw [<- hnn,<- List.getLast?_eq_getElem?];exact hp
   have hp3:((vs.map Prod.fst).map gOf)[n - 1]? = some (gOf p.1):=by rw [List.getElem?_map,List.getElem?_map,hp2];rfl
   obtain ⟨a,_,_,ha,b1,_⟩:=h.toks.in.at (n - 1) _ hp3;exact ⟨a,(p.1.kind:Int),ha,h0,by rw [beq_eq_false_iff_ne];have:=hk p hp;omega,b1⟩
 rw [hnn] at H d1;have HNN:=hide hnn;have hn2:n <= 16777216:=by rw [<- hnn];exact hn
 clear h hn ht hk hnn;rcases hcase with rfl | ⟨a,K,rfl,hn0,hK,hc⟩
 all_goals
  first
   |have tn0:decide ((0:Int) < n) = true:=decide_eq_true (by omega)
    have tn1:decide (0 < n) = true:=decide_eq_true hn0;have tnw:wrap64 ((n:Int) - 1) = ((n - 1:Nat):Int):=by unfold wrap64;omega
    have tnm:(n:Int) - 1 = ((n - 1:Nat):Int):=by omega
    have tnl:n - 1 < n:=by omega
    clear hn0
   |skip
  go_enter Tryz.func91,Tryz.ntmps91;go_wp2_with (at_builtin;go_must (refine wpList_toks rfl _ _ rfl B _ vs rfl (charsT t.data.toList) (.slice none 0 0) (H.out.toks.alloc _) (World.ownsRow_nil _ B _ 2) (by rw [World.size_alloc];exact Nat.le_succ_of_le H.out.size) ⟨w.heap.size,0,none⟩ rfl (tok_row _ _ _ _ _).1 (tok_row _ _ _ _ _).2.1 (tok_row _ _ _ _ _).2.2.1 ((tok_row _ _ _ _ _).2.2.2.trans (by show some (Value.string t) = some (Value.string (str t.data.toList));rw [HTS.out])) (by have:=HN.out;omega) ?_;intro v2 w2 ht2 hg2;obtain ⟨A2,n2,c2,rfl⟩:∃ A n c,v2 = .slice A n c:=⟨_,_,_,ht2.slice_len.choose_spec.choose_spec⟩;obtain ⟨x1,x2,x3⟩:=storedS H.out ht2 hg2;have HS:=hide x3;clear ht2 hg2 x3));go_end0;exact ⟨rfl,_,_,HS.out,by rw [List.map_append];rfl,by rw [List.length_append];exact Nat.le_refl _⟩
end Go.Proofs.YtiejmkjpgjbodaaGreatDoor
