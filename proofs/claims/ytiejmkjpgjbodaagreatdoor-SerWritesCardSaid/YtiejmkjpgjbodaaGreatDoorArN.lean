import Derived.Test.YtiejmkjpgjbodaaGreatDoorArM
namespace Go.Proofs.YtiejmkjpgjbodaaGreatDoor
open Go.RowKit
set_option linter.unusedVariables false
set_option linter.unusedSimpArgs false
set_option maxRecDepth 100000
theorem info_arnode:(Tryz.prog.info? 65).map (fun i=>(i.zero,i.size,i.bytes)) = some (some (.agg #[.string ByteArray.empty,.slice none 0 0,.string ByteArray.empty,.slice none 0 0,.slice none 0 0]),5,104):=by kernel_rfl
theorem info_arint:(Tryz.prog.info? 3).map (fun i=>(i.zero,i.size,i.bytes)) = some (some (.int .i64 0),1,8):=by kernel_rfl
theorem intVals_append (a b:List Nat):intVals (a ++ b) = intVals a ++ intVals b:=by unfold intVals;rw [List.map_append]
section
variable {ops:Array Oper} {o:Oper} {a:Act} {Q:Exit -> Act -> World -> Prop}
theorem step_arNode {w:World} {K:Act -> World -> Prop} {E:Prop} (hgd:o.guard = none) (s x:Operand)
  (ho:o.op = .call { callee:=.builtin .append,args:=#[s,x],argTypes:=#[66,66] })
  (B:Nat) (v:Value) (l:List ArV) (hs:a.eval s = v) (hb:w.ownsRow B 65 5 v l.length (arVals l)) (hB:B <= w.heap.size)
  (ad:Addr) (hx:a.eval x = .slice (some ad) 1 1) (p:ArV) (h0:w.cell? (ad.add 0) = some (.string (str p.h.name))) (h1:w.cell? (ad.add 1) = some p.av) (h2:w.cell? (ad.add 2) = some (.string (str p.h.text))) (h3:w.cell? (ad.add 3) = some (.slice none 0 0)) (h4:w.cell? (ad.add 4) = some p.kv)
  (ho1:p.av.oneCell' = true) (ho2:p.kv.oneCell' = true) (hlen:l.length + 1 <= 1000000000)
  (h:∀ v' w',w'.ownsRow B 65 5 v' (l.length + 1) (arVals (l ++ [p])) -> w.grownBy w' v.ownBlock -> (v'.ownBlock = v.ownBlock \/ v'.ownBlock = some w.heap.size) -> K (a.put o.dst v') w') :
  if Region.wanted o (yielded ops a.tmps) = true then Oper.wp Tryz.prog o a w K Q else E:=by
 have hw:Region.wanted o (yielded ops a.tmps) = true:=by simp [Region.wanted,hgd]
 rw [if_pos hw];obtain ⟨i0,hi,hz0,hz1,hz2⟩:=info_parts info_arnode;refine wp_append_own2 _ s x 66 ho B 65 i0 _ 5 104 Tryz.underlying66 hi hz0 hz1 hz2 rfl (by decide) v l.length (arVals l) hs hb ad 1 1 (arVals [p]) hx rfl ?_ ?_ (by unfold maxLen;omega) (by omega) hB ?_
 ·intro j u hj
  match j,hj with
  | 0,hj=>simp [arVals,arCells] at hj;subst hj;exact h0
  | 1,hj=>simp [arVals,arCells] at hj;subst hj;exact h1
  | 2,hj=>simp [arVals,arCells] at hj;subst hj;exact h2
  | 3,hj=>simp [arVals,arCells] at hj;subst hj;exact h3
  | 4,hj=>simp [arVals,arCells] at hj;subst hj;exact h4
  | (j + 5),hj=>simp [arVals,arCells] at hj
 ·intro u hu;simp [arVals,arCells] at hu;rcases hu with rfl | rfl | rfl | rfl | rfl
  ·rfl
  ·exact ho1
  ·rfl
  ·rfl
  ·exact ho2
 ·intro v' w' ho' hg hor;exact h v' w' (by rw [arVals_append];exact ho') hg hor
theorem step_arInt {w:World} {K:Act -> World -> Prop} {E:Prop} (hgd:o.guard = none) (s x:Operand)
  (ho:o.op = .call { callee:=.builtin .append,args:=#[s,x],argTypes:=#[63,63] })
  (B:Nat) (v:Value) (l:List Nat) (hs:a.eval s = v) (hb:w.ownsRow B 3 1 v l.length (intVals l)) (hB:B <= w.heap.size)
  (ad:Addr) (hx:a.eval x = .slice (some ad) 1 1) (k:Nat) (hc:w.cell? ad = some (.int .i64 k)) (hlen:l.length + 1 <= 1000000000)
  (h:∀ v' w',w'.ownsRow B 3 1 v' (l.length + 1) (intVals (l ++ [k])) -> w.grownBy w' v.ownBlock -> (v'.ownBlock = v.ownBlock \/ v'.ownBlock = some w.heap.size) -> K (a.put o.dst v') w') :
  if Region.wanted o (yielded ops a.tmps) = true then Oper.wp Tryz.prog o a w K Q else E:=by
 have hw:Region.wanted o (yielded ops a.tmps) = true:=by simp [Region.wanted,hgd]
 rw [if_pos hw];obtain ⟨i0,hi,hz0,hz1,hz2⟩:=info_parts info_arint;refine wp_append_own2 _ s x 63 ho B 3 i0 _ 1 8 Tryz.underlying63 hi hz0 hz1 hz2 rfl (by decide) v l.length (intVals l) hs hb ad 1 1 [.int .i64 k] hx rfl ?_ ?_ (by unfold maxLen;omega) (by omega) hB ?_
 ·intro j u hj
  match j,hj with
  | 0,hj=>simp at hj;subst hj;rw [Addr.add_zero'];exact hc
  | (j + 1),hj=>simp at hj
 ·intro u hu;simp at hu;subst hu;rfl
 ·intro v' w' ho' hg hor;exact h v' w' (by rw [intVals_append];exact ho') hg hor
theorem wpList_arInt {w:World} {rest:List Oper} (hgd:o.guard = none) (s x:Operand)
  (ho:o.op = .call { callee:=.builtin .append,args:=#[s,x],argTypes:=#[63,63] })
  (B:Nat) (v:Value) (l:List Nat) (hs:a.eval s = v) (hb:w.ownsRow B 3 1 v l.length (intVals l)) (hB:B <= w.heap.size)
  (ad:Addr) (hx:a.eval x = .slice (some ad) 1 1) (k:Nat) (hc:w.cell? ad = some (.int .i64 k)) (hlen:l.length + 1 <= 1000000000)
  (h:∀ v' w',w'.ownsRow B 3 1 v' (l.length + 1) (intVals (l ++ [k])) -> w.grownBy w' v.ownBlock -> (v'.ownBlock = v.ownBlock \/ v'.ownBlock = some w.heap.size) -> wpList Tryz.prog ops Q rest (a.put o.dst v') w'):wpList Tryz.prog ops Q (o :: rest) a w:=by
 obtain ⟨i0,hi,hz0,hz1,hz2⟩:=info_parts info_arint;refine wpList_append_own2 _ hgd s x 63 ho B 3 i0 _ 1 8 Tryz.underlying63 hi hz0 hz1 hz2 rfl (by decide) v l.length (intVals l) hs hb ad 1 1 [.int .i64 k] hx rfl ?_ ?_ (by unfold maxLen;omega) (by omega) hB ?_
 ·intro j u hj
  match j,hj with
  | 0,hj=>simp at hj;subst hj;rw [Addr.add_zero'];exact hc
  | (j + 1),hj=>simp at hj
 ·intro u hu;simp at hu;subst hu;rfl
 ·intro v' w' ho' hg hor;exact h v' w' (by rw [intVals_append];exact ho') hg hor
end
theorem ar_row (W:World) (c0 c1 c2 c3 c4:Value):(W.alloc (.cells #[c0,c1,c2,c3,c4] 65)).cell? ((⟨W.heap.size,0,none⟩:Addr).add 0) = some c0 /\ (W.alloc (.cells #[c0,c1,c2,c3,c4] 65)).cell? ((⟨W.heap.size,0,none⟩:Addr).add 1) = some c1 /\ (W.alloc (.cells #[c0,c1,c2,c3,c4] 65)).cell? ((⟨W.heap.size,0,none⟩:Addr).add 2) = some c2 /\ (W.alloc (.cells #[c0,c1,c2,c3,c4] 65)).cell? ((⟨W.heap.size,0,none⟩:Addr).add 3) = some c3 /\ (W.alloc (.cells #[c0,c1,c2,c3,c4] 65)).cell? ((⟨W.heap.size,0,none⟩:Addr).add 4) = some c4:=by
 have h:(W.alloc (.cells #[c0,c1,c2,c3,c4] 65)).heap[W.heap.size]? = some (.cells #[c0,c1,c2,c3,c4] 65 (0,0)):=by
  show (W.heap.push _)[W.heap.size]? = _
  exact Array.getElem?_push_size
 exact ⟨by rw [Addr.add_lit,Lib.cell_of_heap h];rfl,by rw [Addr.add_lit,Lib.cell_of_heap h];rfl,by rw [Addr.add_lit,Lib.cell_of_heap h];rfl,by rw [Addr.add_lit,Lib.cell_of_heap h];rfl,by rw [Addr.add_lit,Lib.cell_of_heap h];rfl⟩
end Go.Proofs.YtiejmkjpgjbodaaGreatDoor
