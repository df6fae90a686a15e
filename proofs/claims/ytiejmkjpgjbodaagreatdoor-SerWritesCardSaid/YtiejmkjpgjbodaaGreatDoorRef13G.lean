import Derived.Test.YtiejmkjpgjbodaaGreatDoorRef13E
import Derived.Laws.OwnMore
namespace Go.Proofs.YtiejmkjpgjbodaaGreatDoor
open Go.RowKit
set_option linter.unusedVariables false
set_option linter.unusedSimpArgs false
set_option maxRecDepth 100000
theorem tokVals_set (ys:List TokV) (q:TokL) (u:Value) (x:List UInt8):(tokVals (ys ++ [(q,u)])).set (ys.length * 4 + 3) (.string (str x)) = tokVals (ys ++ [({ q with text:=x },u)]):=by
 rw [tokVals_append,tokVals_append,List.set_append_right _ _ (by rw [tokVals_length];omega),tokVals_length]
 congr 1
 rw [show ys.length * 4 + 3 - ys.length * 4 = 3 by omega];rfl
theorem Sc.setText {B b g c:Nat} {s:ByteArray} {ys:List TokV} {q:TokL} {u:Value} {W0 w:World} (h:Sc B b s (.slice (some ⟨g,0,none⟩) (ys.length + 1) c) (ys ++ [(q,u)]) W0 w) (x:List UInt8) :
  Sc B b s (.slice (some ⟨g,0,none⟩) (ys.length + 1) c) (ys ++ [({ q with text:=x },u)]) W0 (w.setCell ⟨g,ys.length * 4 + 3,none⟩ (.string (str x))):=by
 have hl:(ys ++ [(q,u)]).length = ys.length + 1:=by rw [List.length_append];rfl
 have hrow:=h.toks.row;rw [hl] at hrow;obtain ⟨r1,r2⟩:=hrow.stored (ys.length * 4 + 3) (.string (str x));rw [tokVals_set] at r1;have hgb:B <= g:=(hrow.lt g rfl).1;have hne:b ≠ g:=fun e=>h.ne (by rw [e];rfl)
 refine ⟨?_,⟨by rw [List.length_append];exact r1,fun p hp=>?_⟩,h.base,h.below.setCell (p:=⟨g,ys.length * 4 + 3,none⟩) hgb _,by simpa [World.setCell] using h.size⟩
 ·rw [r2.block b (lt_of_block h.cell) (fun e=>hne (Option.some.inj e))];exact h.cell
 ·have hk:∀ {y:Value} {k:Nat} {xs:List Value},w.ownsRow B 43 2 y k xs -> (w.setCell ⟨g,ys.length * 4 + 3,none⟩ (.string (str x))).ownsRow B 43 2 y k xs:=fun hy=>hy.kept r2 (ownsRow_diff (by decide) hy h.toks.row)
  rcases List.mem_append.1 hp with hp | hp
  ·exact hk (h.toks.each p (List.mem_append.2 (.inl hp)))
  ·obtain rfl:=List.mem_singleton.1 hp;exact hk (h.toks.each (q,u) (List.mem_append.2 (.inr (List.mem_singleton.2 rfl))))
set_option maxHeartbeats 8000000 in
theorem chars_last (B b:Nat) (s:ByteArray) (o:Value) (ys:List TokV) (q:TokL) (u:Value) (t:ByteArray) (W0 w:World) (h:Sc B b s o (ys ++ [(q,u)]) W0 w) (hn:ys.length <= 16777216) (ht:t.data.toList ≠ []) (hq:q.kind = 1) (hz:q.text.length + t.size <= 1099511627776) :
  Calls Tryz.prog 91 #[.pointer (some ⟨b,0,none⟩),.string t] w fun e w'=>e = .returned (.tuple #[]) /\ ScP B b s ((ys ++ [({ q with text:=q.text ++ t.data.toList },u)]).map Prod.fst) (ys.length + 1) W0 w':=by
 have t0:t.toList.isEmpty = false:=by
  rw [bytes_list];cases hh:t.data.toList with
  | nil=>exact absurd hh ht
  | cons _ _=>rfl
 have hl:(ys ++ [(q,u)]).length = ys.length + 1:=by rw [List.length_append];rfl
 obtain ⟨g,c,rfl⟩:∃ g c,o = .slice (some ⟨g,0,none⟩) (ys.length + 1) c:=by
  rcases h.toks.row.2 with ⟨_,h0⟩ | ⟨g,cap,cur,hv,_⟩
  ·rw [hl] at h0;cases h0
  ·exact ⟨g,cap,by rw [hv,hl]⟩
 have hrow:=h.toks.row;rw [hl] at hrow;have hfr:=hrow.frozenAt (ys.length * 4 + 3);obtain ⟨c1,c2,c3,c4⟩:=tokVals_at (l:=ys ++ [(q,u)]) (j:=ys.length) (p:=(q,u)) (by simp);have e1:=h.toks.row.cells (g:=g) rfl _ _ c1;have e4:=h.toks.row.cells (g:=g) rfl _ _ c4;rw [Addr.add_lit] at e1 e4;rw [Nat.zero_add] at e1 e4;obtain ⟨Y,hY⟩:∃ Y,Y = str q.text:=⟨_,rfl⟩
 have zY:Y.size = q.text.length:=by rw [hY,str_size]
 have e4':w.cell? ⟨g,ys.length * 4 + 3,none⟩ = some (.string Y):=by rw [hY];exact e4
 have e1':w.cell? ⟨g,ys.length * 4,none⟩ = some (.int .i64 1):=by rw [e1];show some (Value.int .i64 (q.kind:Int)) = _;rw [hq];rfl
 have d1:=h.c1;have H:=hide h;have HV:Hid (str (q.text ++ t.data.toList) = Y ++ t):=hide (by rw [hY,str_append,str_of]);have q1:¬ (9223372036854775807 < Y.size + t.size):=by omega
 have tn1:wrap64 (((ys.length + 1:Nat):Int) - 1) = (ys.length:Int):=by unfold wrap64;omega
 have tn2:((ys.length + 1:Nat):Int) - 1 = (ys.length:Int):=by omega
 have tn3:decide ((0:Int) < ((ys.length + 1:Nat):Int)) = true:=decide_eq_true (by omega);have tn4:wrap64 ((ys.length:Int) + 1 - 1) = (ys.length:Int):=by unfold wrap64;omega
 have tn5:(ys.length:Int) < (ys.length:Int) + 1:=by omega
 clear h ht hl hrow c1 c2 c3 c4 e1 e4 hY hq;go_enter Tryz.func91,Tryz.ntmps91;go_wp2_with fail;go_region
 all_goals
  go_wp2_with fail;go_end0;have hs:=H.out.setText (q.text ++ t.data.toList);rw [HV.out] at hs;exact ⟨rfl,_,_,hs.kept ((Below.refl _ _).drew),rfl,by rw [List.length_append];exact Nat.le_refl _⟩
theorem chars13_any (B b:Nat) (s:ByteArray) (o:Value) (vs:List TokV) (t:ByteArray) (W0 w:World) (h:Sc B b s o vs W0 w) (hn:vs.length <= 16777216) (hz:∀ p,vs.getLast? = some p -> p.1.kind = 1 -> p.1.text.length + t.size <= 1099511627776) :
  Calls Tryz.prog 91 #[.pointer (some ⟨b,0,none⟩),.string t] w fun e w'=>e = .returned (.tuple #[]) /\ ScP B b s (addC (vs.map Prod.fst) t.data.toList) (vs.length + 1) W0 w':=by
 by_cases ht:t.data.toList = []
 ·refine (chars_empty B b s o vs t W0 w h ht).mono ?_;rintro e w' ⟨he,o',vs',hs,hm,hl⟩;exact ⟨he,o',vs',hs,by rw [hm];unfold addC;rw [if_pos ht],Nat.le_succ_of_le hl⟩
 ·cases hg:vs.getLast? with
  | none =>
   obtain rfl:=List.getLast?_eq_none_iff.1 hg;refine (chars_append B b s o [] t W0 w h hn ht (fun p hp=>by simp at hp)).mono ?_;rintro e w' ⟨he,o',vs',hs,hm,hl⟩;exact ⟨he,o',vs',hs,by rw [hm,show ([]:List TokV).map Prod.fst = [] from rfl,addC_none ht];rfl,hl⟩
  | some p =>
   have hgm:(vs.map Prod.fst).getLast? = some p.1:=by rw [List.getLast?_map,hg];rfl
   by_cases hk:p.1.kind = 1
   ·obtain ⟨ys,hys⟩:∃ ys,vs = ys ++ [p]:=List.getLast?_eq_some_iff.1 hg;subst hys;obtain ⟨q,u⟩:=p;have hl:(ys ++ [(q,u)]).length = ys.length + 1:=by rw [List.length_append];rfl
    refine (chars_last B b s o ys q u t W0 w h (by omega) ht hk (hz (q,u) hg hk)).mono ?_;rintro e w' ⟨he,o',vs',hs,hm,hl2⟩;refine ⟨he,o',vs',hs,?_,by omega⟩;rw [hm,addC_last ht hgm,if_pos hk];simp
   ·refine (chars_append B b s o vs t W0 w h hn ht (fun p' hp'=>by rw [hg] at hp';injection hp' with hp';subst hp';exact hk)).mono ?_;rintro e w' ⟨he,o',vs',hs,hm,hl2⟩;exact ⟨he,o',vs',hs,by rw [hm,addC_last ht hgm,if_neg hk],hl2⟩
end Go.Proofs.YtiejmkjpgjbodaaGreatDoor
