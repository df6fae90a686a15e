/- The first texts of this claim in one: each with its own head. No statement is proved here. -/
import Derived.Test.YtmgpmdfmkdhfgaaGreatDoorProg
import Derived.WalkKit
import Derived.ProofKit
import Derived.OpenShut
import Derived.Lib.Hide
import Derived.WalkSpells
import Derived.WalkLawsBesides
import Derived.BigQuiet
import Derived.Deep.QuietTactic
import Derived.Lib.AppendStr
import Derived.Laws.BytesArg
import Derived.Deep.Draws
import Derived.OneCell
import Derived.ShutString
import Derived.Deep.RegionWith
import Derived.Deep.RegionLaw
import Derived.Lib.Strings
import Derived.Lib.IndexBytes
import Derived.Laws.IdiomStrings
import Derived.Lib.RuneBytes
import Derived.Lib.SlTrimSet
import Derived.Laws.RangeAny
namespace Go.Proofs.YtmgpmdfmkdhfgaaGreatDoor
open Go.RowKit
set_option linter.unusedVariables false
set_option linter.unusedSimpArgs false
set_option maxRecDepth 100000
set_option maxHeartbeats 16000000
def str (l:List UInt8):ByteArray:=⟨l.toArray⟩
theorem str_toList (l:List UInt8):(str l).data.toList = l:=rfl
theorem str_size (l:List UInt8):(str l).size = l.length:=by simp [str,ByteArray.size]
theorem str_of (s:ByteArray):str s.data.toList = s:=by cases s;simp [str]
theorem toList_length (s:ByteArray):s.data.toList.length = s.size:=by rw [Array.length_toList];rfl
theorem drop_cons (s:ByteArray) (k:Nat) (h:k < s.size):s.data.toList.drop k = s[k] :: s.data.toList.drop (k + 1):=by
 rw [List.drop_eq_getElem_cons (by rw [toList_length];exact h)];rfl
theorem drop_nil (s:ByteArray) (k:Nat) (h:s.size <= k):s.data.toList.drop k = []:=List.drop_eq_nil_of_le (by rw [toList_length];exact h)
theorem take_snoc (s:ByteArray) (k:Nat) (h:k < s.size):s.data.toList.take (k + 1) = s.data.toList.take k ++ [s[k]]:=by
 rw [List.take_succ_eq_append_getElem (by rw [toList_length];exact h)];rfl
theorem str_append (a b:List UInt8):str (a ++ b) = str a ++ str b:=by
 simp only [str];apply ByteArray.ext;simp
theorem ext_list {a b:ByteArray} (h:a.data.toList = b.data.toList):a = b:=by
 rw [<- str_of a,<- str_of b,h]
theorem extract_list (s:ByteArray) (a b:Nat):(s.extract a b).data.toList = (s.data.toList.take b).drop a:=by
 rw [ByteArray.data_extract,Array.toList_extract,List.extract_eq_take_drop,List.drop_take]
theorem extract_end (s:ByteArray) (a:Nat):(s.extract a s.size).data.toList = s.data.toList.drop a:=by
 rw [extract_list,List.take_of_length_le (by rw [toList_length];exact Nat.le_refl _)]
theorem extract_mid (s:ByteArray) (a n:Nat):(s.extract a (a + n)).data.toList = (s.data.toList.drop a).take n:=by
 rw [extract_list,List.take_drop]
theorem extract_size_le (s:ByteArray) (a b:Nat):(s.extract a b).size <= b - a:=by rw [ByteArray.size_extract];omega
theorem str_list (l:List UInt8):(str l).toList = l:=ByteArray.toList_eq _
theorem bytes_list (s:ByteArray):s.toList = s.data.toList:=ByteArray.toList_eq _
theorem nb_lit {n:ByteArray} {l:List UInt8} (h:n.data.toList ≠ l):(n.toList == l) = false:=beq_eq_false_iff_ne.2 (by rw [bytes_list];exact h)
theorem ext_lit {n:ByteArray} {l:List UInt8} (h:n.data.toList = l):n = ⟨l.toArray⟩:=ext_list h
theorem hide {p:Prop} (h:p):Hid p:=h
theorem ret_int {k:IntKind} {a b:Int} (h:a = b):Ending.returned (.int k a) = .returned (.int k b):=by rw [h]
theorem ret_bool {a b:Bool} (h:a = b):Ending.returned (.bool a) = .returned (.bool b):=by rw [h]
theorem ret_str {a b:ByteArray} (h:a = b):Ending.returned (.string a) = .returned (.string b):=by rw [h]
theorem u8_eq {c:UInt8} {n:Nat} (hn:n < 256) (h:(c.toNat:Int) = n):c = UInt8.ofNat n:=by
 apply UInt8.toNat_inj.1;rw [UInt8.toNat_ofNat'];omega
theorem tT {c:UInt8} (n:Nat) (h:c = UInt8.ofNat n) (hn:n < 256):((c.toNat:Int) == (n:Int)) = true:=by
 subst h;rw [UInt8.toNat_ofNat',Nat.mod_eq_of_lt hn];simp
theorem tF {c:UInt8} (n:Nat) (h:c ≠ UInt8.ofNat n) (hn:n < 256):((c.toNat:Int) == (n:Int)) = false:=by
 rw [beq_eq_false_iff_ne];intro e;exact h (u8_eq hn e)
theorem u8_all {p:UInt8 -> Prop} [DecidablePred p] (h:(List.range 256).all (fun n=>decide (p (UInt8.ofNat n))) = true) (c:UInt8):p c:=by
 have h1:=List.all_eq_true.1 h c.toNat (List.mem_range.2 c.toNat_lt);rw [decide_eq_true_eq,UInt8.ofNat_toNat] at h1;exact h1
theorem byte_lt (c:UInt8):c.toNat < 256:=c.toNat_lt
theorem next_ascii {P:Program} (w:World) (s:ByteArray) (pos:Nat) (h:pos < s.size) (ha:s.data.toList.all (fun c=>decide (c.toNat < 128)) = true) :
  ∃ x:UInt8,s.data.toList.drop pos = x :: s.data.toList.drop (pos + 1) /\ x.toNat < 128 /\
   ∀ ty,(Instr.next (.pointer (some ⟨w.heap.size,0,none⟩)) true ty).run P (w.iter s pos) = .ok (.tuple #[.bool true,.int .i64 pos,.int .i32 x.toNat]) (w.iter s (pos + 1)):=by
 have hx:(s[pos]'h).toNat < 128:=by
  have:=List.all_eq_true.1 ha s[pos] (by rw [<- Array.mem_def];exact Array.getElem_mem (by exact h))
  simpa using this
 exact ⟨s[pos],drop_cons s pos h,hx,fun ty=>run_next_ascii w s pos ty h hx⟩
theorem iter_below (w:World) (s:ByteArray) (pos:Nat):Below w.heap.size w (w.iter s pos):=(Below.refl _ _).alloc (Nat.le_refl _) _
def cellsOf (l:List UInt8):List Value:=l.map fun b=>Value.int .u8 b.toNat
theorem cellsOf_length (l:List UInt8):(cellsOf l).length = l.length:=by simp [cellsOf]
theorem cellsOf_str (s:ByteArray):Lib.strCells s = cellsOf s.data.toList:=rfl
def Buf (B:Nat) (v:Value) (l:List UInt8) (W0 w:World):Prop :=
  w.ownsRow B 5 1 v l.length (cellsOf l) /\ Below B W0 w /\ B <= w.heap.size
theorem info_u8:(Tryz.prog.info? 5).map (fun i=>(i.zero,i.size,i.bytes)) = some (some (.int .u8 0),1,1):=by kernel_rfl
theorem Buf.nil {B:Nat} {W0 w:World} (hb:Below B W0 w) (hB:B <= w.heap.size):Buf B (.slice none 0 0) [] W0 w:=⟨World.ownsRow_nil w B _ 1,hb,hB⟩
theorem Buf.below {B:Nat} {v:Value} {l:List UInt8} {W0 w:World} (h:Buf B v l W0 w):Below B W0 w:=h.2.1
theorem Buf.grown {B:Nat} {v v':Value} {l l':List UInt8} {W0 w w':World} (h:Buf B v l W0 w) (ho:w'.ownsRow B 5 1 v' l'.length (cellsOf l')) (hg:w.grownBy w' v.ownBlock):Buf B v' l' W0 w' :=
 ⟨ho,h.2.1.grown hg h.2.2 (fun k hk=>(h.1.lt k hk).1),Nat.le_trans h.2.2 hg.size⟩
theorem Buf.alloc {B:Nat} {v:Value} {l:List UInt8} {W0 w:World} (h:Buf B v l W0 w) (o:Obj):Buf B v l W0 (w.alloc o) :=
 ⟨h.1.alloc o,h.2.1.alloc h.2.2 o,Nat.le_trans h.2.2 ((Below.refl 0 w).alloc (Nat.zero_le _) o).size⟩
theorem Buf.drew {B:Nat} {v:Value} {l:List UInt8} {W0 w:World} (h:Buf B v l W0 w):Buf B v l W0 w.drew:=⟨h.1,h.2.1.drew,h.2.2⟩
theorem Buf.drewN {B:Nat} {v:Value} {l:List UInt8} {W0 w:World} (h:Buf B v l W0 w) (n:Nat):Buf B v l W0 (w.drewN n) :=
 ⟨h.1,⟨h.2.1.os,h.2.1.tape,h.2.1.output,h.2.1.size,h.2.1.block⟩,h.2.2⟩
theorem Buf.kept {B:Nat} {v:Value} {l:List UInt8} {W0 w w':World} (h:Buf B v l W0 w) (hb:Below w.heap.size w w'):Buf B v l W0 w' :=
 ⟨h.1.kept (row:=none) ⟨hb.os,hb.tape,hb.output,hb.size,fun k hk _=>hb.block k hk⟩ (by cases hv:v.ownBlock <;> simp),h.2.1.trans (hb.mono h.2.2),Nat.le_trans h.2.2 hb.size⟩
theorem Buf.slice {B:Nat} {v:Value} {l:List UInt8} {W0 w:World} (h:Buf B v l W0 w):∃ A n c,v = .slice A n c:=by
 rcases h.1.2 with ⟨rfl,_⟩ | ⟨g,cap,cur,rfl,_⟩
 ·exact ⟨_,_,_,rfl⟩
 ·exact ⟨_,_,_,rfl⟩
theorem Buf.slice_len {B:Nat} {v:Value} {l:List UInt8} {W0 w:World} (h:Buf B v l W0 w):∃ A c,v = .slice A l.length c:=by
 rcases h.1.2 with ⟨rfl,h0⟩ | ⟨g,cap,cur,rfl,_⟩
 ·rw [h0];exact ⟨_,_,rfl⟩
 ·exact ⟨_,_,rfl⟩
theorem Buf.form {B:Nat} {v:Value} {l:List UInt8} {W0 w:World} (h:Buf B v l W0 w) (hl:l ≠ []):∃ g cap,v = .slice (some ⟨g,0,none⟩) l.length cap /\ l.length <= cap /\ cap <= maxLen /\ B <= g /\ g < w.heap.size:=by
 rcases h.1.2 with ⟨rfl,h0⟩ | ⟨g,cap,cur,rfl,hg,hh,hc,hm,_⟩
 ·exact absurd (List.eq_nil_of_length_eq_zero h0) hl
 ·refine ⟨g,cap,rfl,hc,hm,hg,?_⟩;rcases Nat.lt_or_ge g w.heap.size with h1 | h1
  ·exact h1
  ·rw [Array.getElem?_eq_none h1] at hh;cases hh
theorem Buf.cellAt {B g cap:Nat} {l:List UInt8} {W0 w:World} (h:Buf B (.slice (some ⟨g,0,none⟩) l.length cap) l W0 w) (j:Nat) (hj:j < l.length):w.cell? ⟨g,j,none⟩ = some (.int .u8 l[j].toNat):=by
 rw [h.1.cellAt j (by omega)];simp [cellsOf,hj]
theorem Buf.take {B g cap:Nat} {l:List UInt8} {W0 w:World} (h:Buf B (.slice (some ⟨g,0,none⟩) l.length cap) l W0 w) (k:Nat) (hk:k <= l.length):Buf B (.slice (some ⟨g,0,none⟩) k cap) (l.take k) W0 w:=by
 obtain ⟨⟨h0,h1⟩,h2,h3⟩:=h;rcases h1 with ⟨h1,_⟩ | ⟨g',cap',cur,h1,hg,hh,hc,hm,hs,ht⟩
 ·cases h1
 ·injection h1 with e1 e2 e3;injection e1 with e1;injection e1 with e1;subst e1;subst e3
  refine ⟨⟨by simp [cellsOf],.inr ⟨g,cap,cur,by rw [List.length_take,Nat.min_eq_left hk],hg,hh,by rw [List.length_take,Nat.min_eq_left hk];omega,hm,hs,?_⟩⟩,h2,h3⟩;rw [List.length_take,Nat.min_eq_left hk,Nat.mul_one];rw [Nat.mul_one] at ht;have:=congrArg (List.take k) ht;rw [List.take_take,Nat.min_eq_left hk] at this;rw [this,cellsOf,cellsOf,List.map_take]
theorem wpList_buf_text {ops:Array Oper} {rest:List Oper} {o:Oper} {a:Act} {Q:Exit -> Act -> World -> Prop} {w:World} (hgd:o.guard = none) (sl x:Operand)
  (ho:o.op = .call { callee:=.builtin .append,args:=#[sl,x],argTypes:=#[58,9] })
  (B:Nat) (v:Value) (l:List UInt8) (hs:a.eval sl = v) (W0:World) (hb:Buf B v l W0 w) (s:ByteArray) (hx:a.eval x = .string s) (hlen:l.length + s.size <= 140737488355328)
  (h:∀ v' w',Buf B v' (l ++ s.data.toList) W0 w' -> wpList Tryz.prog ops Q rest (a.put o.dst v') w'):wpList Tryz.prog ops Q (o :: rest) a w:=by
 obtain ⟨i0,hi,hz0,hz1,hz2⟩:=info_parts info_u8;refine Lib.wpList_append_own_string w hgd sl x 58 9 ho B 5 i0 Tryz.underlying58 Tryz.underlying9 hi hz0 hz1 hz2 v l.length (cellsOf l) hs hb.1 s hx (by unfold maxLen;omega) hlen hb.2.2 ?_;intro v' w' ho' hg _;refine h v' w' (hb.grown (l':=l ++ s.data.toList) ?_ hg);rw [List.length_append,toList_length,cellsOf,List.map_append];exact ho'
theorem Buf.convert {B:Nat} {v:Value} {l:List UInt8} {W0 w:World} (h:Buf B v l W0 w):(convert 58 9 v).run Tryz.prog w = .ok (.string (str l)) w:=by
 rcases h.1.2 with ⟨rfl,hl⟩ | ⟨g,cap,cur,rfl,_⟩
 ·have:l = []:=List.eq_nil_of_length_eq_zero hl;subst this;exact run_convert_bytes_nil w 58 5 Tryz.underlying58 Tryz.underlying5 0 0 9 Tryz.underlying9
 ·have hc:=h.1.cells (g:=g) rfl
  have hr:=run_convert_bytes_arg (P:=Tryz.prog) w 58 5 Tryz.underlying58 Tryz.underlying5 g 0 l.length cap (l.map fun b=>(b.toNat:Int)) (by simp) (fun i hi=>by
   have h1:=hc i (.int .u8 l[i].toNat) (by simp [cellsOf,hi]);rw [Addr.add_lit] at h1;rw [h1];simp [List.getD,hi]) 9 Tryz.underlying9
  rw [hr];refine congrArg (fun x=>Result.ok (Value.string x) w) ?_;apply ext_list;rw [strOfNums_data,str_toList,List.map_map]
  conv=>rhs;rw [<- List.map_id l]
  apply List.map_congr_left;intro b _;simp
theorem conv1 (w:World) (x:Int):(convert 58 9 (.slice (some ⟨w.heap.size,0,none⟩) 1 1)).run Tryz.prog (w.alloc (.cells #[.int .u8 x] 5)) = .ok (.string (strOfNums [x])) (w.alloc (.cells #[.int .u8 x] 5)) :=
 run_convert_bytes_arg (P:=Tryz.prog) _ 58 5 Tryz.underlying58 Tryz.underlying5 w.heap.size 0 1 1 [x] rfl (fun i hi=>by
  obtain rfl:i = 0:=by omega
  rw [World.cell?_alloc_at _ _ _ _ (by simp)];rfl) 9 Tryz.underlying9
theorem nums_list (xs:List Int):(strOfNums xs).data.toList = xs.map fun n=>UInt8.ofNat n.toNat:=rfl
theorem nums_str {xs:List Int} {l:List UInt8} (h:(xs.map fun n=>UInt8.ofNat n.toNat) = l):strOfNums xs = str l:=ext_list (by rw [nums_list,h,str_toList])
theorem wpList_buf_make {ops:Array Oper} {rest:List Oper} {o:Oper} {a:Act} {Q:Exit -> Act -> World -> Prop} {w:World} (hgd:o.guard = none) (x y:Operand)
  (ho:o.op = .makeSlice 58 x y) (B:Nat) (W0:World) (hb:Below B W0 w) (hB:B <= w.heap.size) (c:Nat) (C:Int) (hx:a.eval x = .int .i64 0) (hy:a.eval y = .int .i64 C) (hC:C = c) (hc:c <= 281474976710656)
  (h:∀ v' w',Buf B v' [] W0 w' -> wpList Tryz.prog ops Q rest (a.put o.dst v') w'):wpList Tryz.prog ops Q (o :: rest) a w:=by
 obtain ⟨i0,hi,hz0,hz1,hz2⟩:=info_parts info_u8;refine wpList_make_own w hgd x y 58 ho B 5 i0 (.int .u8 0) 1 Tryz.underlying58 hi hz0 hz1 .i64 .i64 C c hx hy hC (by rw [hz2];omega) (by unfold maxLen;omega) hB ?_;intro w' ho' hg;exact h _ _ ⟨ho',hb.grown hg hB (by simp),Nat.le_trans hB hg.size⟩
def Box (w:World) (b:Nat) (t:TypeId) (v:Value):Prop:=w.heap[b]? = some (.cells #[v] t (0,0))
section
variable {w w':World} {b:Nat} {t:TypeId} {v:Value}
theorem Box.cell (h:Box w b t v):w.cell? ⟨b,0,none⟩ = some v:=cell_of_one h
theorem Box.free (h:Box w b t v):w.frozen? ⟨b,0,none⟩ = false:=free_of_one h
theorem Box.lt (h:Box w b t v):b < w.heap.size:=lt_of_block h
theorem Box.new (w:World) (t:TypeId) (v:Value):Box (w.alloc (.cells #[v] t)) w.heap.size t v:=heap_alloc_new w _
theorem Box.alloc (h:Box w b t v) (o:Obj):Box (w.alloc o) b t v:=(Below.heap_alloc w o b h.lt).trans h
theorem Box.drew (h:Box w b t v):Box w.drew b t v:=h
theorem Box.drewN (h:Box w b t v) (n:Nat):Box (w.drewN n) b t v:=h
theorem Box.set (h:Box w b t v) (u:Value):Box (w.setCell ⟨b,0,none⟩ u) b t u:=one_setCell h
theorem Box.far (h:Box w b t v) {a:Addr} (ha:b ≠ a.block) (u:Value):Box (w.setCell a u) b t v:=(Below.heap_setCell w a u b ha).trans h
theorem Box.below {B:Nat} (h:Box w b t v) (hb:Below B w w') (hB:b < B):Box w' b t v:=(hb.block b hB).trans h
end
theorem Buf.ne_box {B b:Nat} {t:TypeId} {u v:Value} {l:List UInt8} {W0 w:World} (h:Buf B v l W0 w) (hb:Box w b t u) (ht:t ≠ 5):v.ownBlock ≠ some b:=by
 rcases h.1.2 with ⟨rfl,_⟩ | ⟨g,cap,cur,rfl,_,hh,_⟩
 ·simp [Value.ownBlock]
 ·intro he;have e:g = b:=by simpa [Value.ownBlock] using he
  subst e;unfold Box at hb;rw [hh] at hb;injection hb with hb;injection hb with _ e;exact ht e.symm
theorem Buf.setBox {B b:Nat} {t:TypeId} {u v:Value} {l:List UInt8} {W0 w:World} (h:Buf B v l W0 w) (hb:Box w b t u) (ht:t ≠ 5) (hB:B <= b) (x:Value):Buf B v l W0 (w.setCell ⟨b,0,none⟩ x) :=
 ⟨ownsRow_setCell_other h.1 (h.ne_box hb ht) x,h.2.1.setCell hB x,by simpa [World.setCell] using h.2.2⟩
def KeptBut (bo:Nat) (w w':World):Prop:=∀ b t v,t ≠ 5 -> b ≠ bo -> Box w b t v -> Box w' b t v
theorem KeptBut.refl (bo:Nat) (w:World):KeptBut bo w w:=fun _ _ _ _ _ h=>h
theorem KeptBut.trans {bo:Nat} {w w1 w2:World} (h:KeptBut bo w w1) (k:KeptBut bo w1 w2):KeptBut bo w w2:=fun b t v ht hb hx=>k b t v ht hb (h b t v ht hb hx)
theorem KeptBut.set {bo:Nat} {w w1:World} (h:KeptBut bo w w1) (x:Value):KeptBut bo w (w1.setCell ⟨bo,0,none⟩ x):=fun b t v ht hb hx=>(h b t v ht hb hx).far hb x
def Kept (w w':World):Prop:=∀ b t v,t ≠ 5 -> Box w b t v -> Box w' b t v
theorem Kept.alloc {w w':World} (o:Obj) (h:Kept (w.alloc o) w'):Kept w w':=fun b t v ht hx=>h b t v ht (hx.alloc o)
theorem Kept.drew {w w':World} (h:Kept w.drew w'):Kept w w':=h
theorem kept_own {B:Nat} {v:Value} {l:List UInt8} {W0 w w':World} (h:Buf B v l W0 w) (hg:w.grownBy w' v.ownBlock):Kept w w' :=
 fun b t u ht hx=>(hg.block b hx.lt (fun e=>h.ne_box hx ht e.symm)).trans hx
def Arr (B g:Nat) (l:List UInt8) (W0 w:World):Prop :=
  (∀ j (h:j < l.length),w.cell? ⟨g,j,none⟩ = some (.int .u8 (l[j]'h).toNat) /\ w.frozen? ⟨g,j,none⟩ = false) /\ Below B W0 w /\ B <= g /\ g < w.heap.size
theorem Arr.below {B g:Nat} {l:List UInt8} {W0 w:World} (h:Arr B g l W0 w):Below B W0 w:=h.2.1
theorem Arr.cell {B g:Nat} {l:List UInt8} {W0 w:World} (h:Arr B g l W0 w) (j:Nat) (hj:j < l.length):w.cell? ⟨g,j,none⟩ = some (.int .u8 (l[j]'hj).toNat):=(h.1 j hj).1
theorem Arr.free {B g:Nat} {l:List UInt8} {W0 w:World} (h:Arr B g l W0 w) (j:Nat) (hj:j < l.length):w.frozen? ⟨g,j,none⟩ = false:=(h.1 j hj).2
theorem Arr.drew {B g:Nat} {l:List UInt8} {W0 w:World} (h:Arr B g l W0 w):Arr B g l W0 w.drew:=⟨h.1,h.2.1.drew,h.2.2⟩
theorem Arr.kept {B g:Nat} {l:List UInt8} {W0 w w':World} (h:Arr B g l W0 w) (hb:Below w.heap.size w w'):Arr B g l W0 w' :=
 ⟨fun j hj=>⟨(hb.cell (by exact h.2.2.2)).trans (h.cell j hj),(hb.frozen (by exact h.2.2.2)).trans (h.free j hj)⟩,h.2.1.trans (hb.mono (Nat.le_trans h.2.2.1 (Nat.le_of_lt h.2.2.2))),h.2.2.1,Nat.lt_of_lt_of_le h.2.2.2 hb.size⟩
theorem Arr.new (w:World) (s:ByteArray) (cap:Nat) :
  Arr w.heap.size w.heap.size s.data.toList w (w.drew.alloc (.cells (bytesRow s cap) 5 ((bytesRow s cap).size,(bytesRow s cap).size + 1))):=by
 have hh:(w.drew.alloc (.cells (bytesRow s cap) 5 ((bytesRow s cap).size,(bytesRow s cap).size + 1))).heap[w.heap.size]? = some (.cells (bytesRow s cap) 5 ((bytesRow s cap).size,(bytesRow s cap).size + 1)):=heap_alloc_new w.drew _;have hz:s.data.toList.length <= (bytesRow s cap).size:=by simp [bytesRow]
 refine ⟨fun j hj=>⟨?_,?_⟩,((Below.refl _ w).drew).alloc (Nat.le_refl _) _,Nat.le_refl _,?_⟩
 ·rw [cell_of_row _ _ j _ _ _ hh];have hj':j < s.data.size:=by simpa using hj
  simp only [bytesRow];rw [Array.getElem?_append_left (by simpa using hj')];simp only [Array.getElem?_map];rw [Array.getElem?_eq_getElem hj'];simp
 ·unfold World.frozen?;rw [hh];have:¬ (bytesRow s cap).size <= j:=by omega
  simp [this]
 ·exact ((Array.getElem?_eq_some_iff.1 hh).1)
theorem Arr.set {B g:Nat} {l:List UInt8} {W0 w:World} (h:Arr B g l W0 w) (j:Nat) (hj:j < l.length) (c:UInt8) (n:Int) (hn:n = c.toNat):Arr B g (l.set j c) W0 (w.setCell ⟨g,j,none⟩ (.int .u8 n)):=by
 subst hn;refine ⟨fun i hi=>?_,h.2.1.setCell h.2.2.1 _,h.2.2.1,by simpa [World.setCell] using h.2.2.2⟩;have hi':i < l.length:=by simpa using hi
 rw [World.frozen?_setCell];refine ⟨?_,h.free i hi'⟩
 by_cases e:i = j
 ·subst e;rw [World.cell?_setCell_same _ _ _ (h.cell i hi')];simp
 ·rw [World.cell?_setCell_other _ _ _ _ (by intro e';injection e' with _ e2;exact e e2.symm),h.cell i hi'];rw [List.getElem_set_ne (Ne.symm e)]
theorem Arr.convert {B g:Nat} {l:List UInt8} {W0 w:World} (h:Arr B g l W0 w) (cap:Nat):(convert 58 9 (.slice (some ⟨g,0,none⟩) l.length cap)).run Tryz.prog w = .ok (.string (str l)) w:=by
 have hr:=run_convert_bytes_arg (P:=Tryz.prog) w 58 5 Tryz.underlying58 Tryz.underlying5 g 0 l.length cap (l.map fun b=>(b.toNat:Int)) (by simp) (fun i hi=>by
  have h1:=h.cell i hi;show w.cell? ⟨g,0 + i,none⟩ = _
  rw [Nat.zero_add,h1];simp [List.getD,hi]) 9 Tryz.underlying9
 rw [hr];refine congrArg (fun x=>Result.ok (Value.string x) w) ?_;apply ext_list;rw [strOfNums_data,str_toList,List.map_map]
 conv=>rhs;rw [<- List.map_id l]
 apply List.map_congr_left;intro b _;simp
theorem conv_bytes (w : World) (s : ByteArray) : (convert 9 58 (.string s)).run Tryz.prog w = .ok (.slice (some ⟨w.heap.size, 0, none⟩) s.size (grownCap w s.size 0 5))
      (w.drew.alloc (.cells (bytesRow s (grownCap w s.size 0 5)) 5 ((bytesRow s (grownCap w s.size 0 5)).size, (bytesRow s (grownCap w s.size 0 5)).size + 1))) :=
  run_bytes_of_string w 9 58 5 s Tryz.underlying9 Tryz.underlying58 Tryz.underlying5
theorem wpList_bytes {ops:Array Oper} {rest:List Oper} {o:Oper} {a:Act} {Q:Exit -> Act -> World -> Prop} {w:World} (hgd:o.guard = none) (x:Operand) (ho:o.op = .convert 9 58 x) (s:ByteArray) (hx:a.eval x = .string s)
  (h:∀ (cap:Nat) (w':World),Arr w.heap.size w.heap.size s.data.toList w w' -> wpList Tryz.prog ops Q rest (a.put o.dst (.slice (some ⟨w.heap.size,0,none⟩) s.size cap)) w'):wpList Tryz.prog ops Q (o :: rest) a w:=by
 refine wpList_plain hgd fun K hK'=>?_
 unfold Oper.wp;simp [execOp,ho,hx,conv_bytes,Result.andThen];exact hK' _ _ (h _ _ (Arr.new w s _))
def lowC (c:UInt8):UInt8:=if 65 <= c /\ c <= 90 then c + 32 else c
def lowL (l:List UInt8):List UInt8:=l.map lowC
theorem lowC_case (c:UInt8):(65 <= c.toNat /\ c.toNat <= 90 /\ (lowC c).toNat = c.toNat + 32) \/ ((c.toNat < 65 \/ (65 <= c.toNat /\ 90 < c.toNat)) /\ lowC c = c) :=
 u8_all (p:=fun c=>(65 <= c.toNat /\ c.toNat <= 90 /\ (lowC c).toNat = c.toNat + 32) \/ ((c.toNat < 65 \/ (65 <= c.toNat /\ 90 < c.toNat)) /\ lowC c = c)) (by decide +kernel) c
theorem lowL_length (l:List UInt8):(lowL l).length = l.length:=by simp [lowL]
def lowAt (l:List UInt8) (k:Nat):List UInt8:=lowL (l.take k) ++ l.drop k
theorem lowAt_length (l:List UInt8) (k:Nat):(lowAt l k).length = l.length:=by simp [lowAt,lowL];omega
theorem lowAt_zero (l:List UInt8):lowAt l 0 = l:=by simp [lowAt,lowL]
theorem lowAt_end (l:List UInt8) (k:Nat) (h:l.length <= k):lowAt l k = lowL l:=by
 rw [lowAt,List.take_of_length_le h,List.drop_eq_nil_of_le h,List.append_nil]
theorem lowAt_get (l:List UInt8) (k:Nat) (h:k < l.length) (h':k < (lowAt l k).length):(lowAt l k)[k] = l[k]:=by
 simp [lowAt,lowL,Nat.min_eq_left (Nat.le_of_lt h)]
theorem lowAt_set (l:List UInt8) (k:Nat) (h:k < l.length):(lowAt l k).set k (lowC l[k]) = lowAt l (k + 1):=by
 have e:(lowL (l.take k)).length = k:=by simp [lowL];omega
 rw [lowAt,List.set_append_right _ _ (by omega),e,Nat.sub_self,List.drop_eq_getElem_cons h,List.set_cons_zero,lowAt];rw [List.take_succ_eq_append_getElem h,lowL,lowL,List.map_append,List.append_assoc];rfl
theorem lowAt_same (l:List UInt8) (k:Nat) (h:k < l.length) (e:lowC l[k] = l[k]):lowAt l k = lowAt l (k + 1):=by
 rw [<- lowAt_set l k h,e];have:=lowAt_get l k h (by rw [lowAt_length];exact h)
 conv=>rhs;rw [<- this]
 exact (List.set_getElem_self _).symm
theorem lower_any (s:ByteArray) (w:World) (hs:s.size <= 70368744177664) :
  Calls Tryz.prog 107 #[.string s] w fun e w'=>e = .returned (.string (str (lowL s.data.toList))) /\ Below w.heap.size w w':=by
 go_enter Tryz.func107,Tryz.ntmps107;go_wp2_with (refine wpList_bytes rfl _ rfl s rfl ?_;intro cap w0 ha0;have HA0:=hide ha0;clear ha0);go_loopw [10] (fun i wr=>∃ k:Nat,k <= s.size /\ i = .int .i64 k /\ Arr w.heap.size w.heap.size (lowAt s.data.toList k) w wr) (fun i _=>s.size - (intOf i).toNat)
 case atStart=>exact ⟨0,Nat.zero_le _,rfl,by rw [lowAt_zero];exact HA0.out⟩
 case round =>
  obtain ⟨k,hk,rfl,ha⟩:=hrel
  by_cases hlt:k < s.size
  ·have hl:k < s.data.toList.length:=by rw [toList_length];exact hlt
   have hl':k < (lowAt s.data.toList k).length:=by rw [lowAt_length];exact hl
   have hcell:=ha.cell k hl';have hfree:=ha.free k hl';rw [lowAt_get _ _ hl hl'] at hcell;have hset:=lowAt_set s.data.toList k hl;have hcase:=lowC_case s.data.toList[k];have hsame:=lowAt_same s.data.toList k hl;have HST:=fun (c:UInt8) (n:Int) (hn:n = c.toNat)=>hide (ha.set k hl' c n hn)
   generalize s.data.toList[k] = c at hcell hset hcase hsame;have HA:=hide ha;have HSET:=hide hset;clear ha hset;rcases hcase with ⟨c1,c2,c3⟩ | ⟨c1,c2⟩
   ·clear hsame;go_wp2;go_roundw
    case rel=>exact ⟨k + 1,by omega,by go_num,by rw [<- HSET.out];exact (HST (lowC c) _ (by omega)).out⟩
    case measure=>simp [intOf];omega
   ·have HS:=hide (hsame c2);clear hsame c2;rcases c1 with c1 | ⟨c0,c1⟩
    all_goals
     go_wp2;go_roundw
     case rel=>exact ⟨k + 1,by omega,by go_num,by rw [<- HS.out];exact HA.out⟩
     case measure=>simp [intOf];omega
  ·have hc:=ha.convert cap;rw [lowAt_length,toList_length] at hc;go_wp2;go_ret;exact ⟨ret_str (by rw [lowAt_end _ _ (by rw [toList_length];omega)]),ha.below⟩
def letterB (c:UInt8):Bool:=(97 <= c && c <= 122) || (65 <= c && c <= 90)
def digitB (c:UInt8):Bool:=48 <= c && c <= 57
theorem letter_case (c:UInt8):(97 <= c.toNat /\ c.toNat <= 122 /\ letterB c = true) \/ (c.toNat < 97 /\ 65 <= c.toNat /\ c.toNat <= 90 /\ letterB c = true) \/ (97 <= c.toNat /\ 122 < c.toNat /\ letterB c = false) \/ (c.toNat < 97 /\ 65 <= c.toNat /\ 90 < c.toNat /\ letterB c = false) \/ (c.toNat < 97 /\ c.toNat < 65 /\ letterB c = false) :=
 u8_all (p:=fun c=>(97 <= c.toNat /\ c.toNat <= 122 /\ letterB c = true) \/ (c.toNat < 97 /\ 65 <= c.toNat /\ c.toNat <= 90 /\ letterB c = true) \/ (97 <= c.toNat /\ 122 < c.toNat /\ letterB c = false) \/ (c.toNat < 97 /\ 65 <= c.toNat /\ 90 < c.toNat /\ letterB c = false) \/ (c.toNat < 97 /\ c.toNat < 65 /\ letterB c = false)) (by decide +kernel) c
theorem digit_case (c:UInt8):(48 <= c.toNat /\ c.toNat <= 57 /\ digitB c = true) \/ (c.toNat < 48 /\ digitB c = false) \/ (48 <= c.toNat /\ 57 < c.toNat /\ digitB c = false) :=
 u8_all (p:=fun c=>(48 <= c.toNat /\ c.toNat <= 57 /\ digitB c = true) \/ (c.toNat < 48 /\ digitB c = false) \/ (48 <= c.toNat /\ 57 < c.toNat /\ digitB c = false)) (by decide +kernel) c
def runeL (r:Int):List UInt8:=Lib.encodeRune r
def bad:List UInt8:=[239,191,189]
theorem runeL_cases (r:Int):∃ n:Nat,((n < 128 /\ runeL r = [UInt8.ofNat n]) \/ (128 <= n /\ n <= 2047 /\ runeL r = [UInt8.ofNat (192 + n / 64),UInt8.ofNat (128 + n % 64)]) \/
  (2048 <= n /\ n <= 65535 /\ ¬ (55296 <= n /\ n <= 57343) /\ runeL r = [UInt8.ofNat (224 + n / 4096),UInt8.ofNat (128 + n / 64 % 64),UInt8.ofNat (128 + n % 64)]) \/
  (65536 <= n /\ n <= 1114111 /\ runeL r = [UInt8.ofNat (240 + n / 262144),UInt8.ofNat (128 + n / 4096 % 64),UInt8.ofNat (128 + n / 64 % 64),UInt8.ofNat (128 + n % 64)])) /\ (r = n \/ (n = 65533 /\ (r < 0 \/ (55296 <= r /\ r <= 57343) \/ 1114111 < r))):=by
 by_cases h:r < 0 \/ (55296 <= r /\ r <= 57343) \/ 1114111 < r
 ·refine ⟨65533,.inr (.inr (.inl ⟨by omega,by omega,by omega,?_⟩)),.inr ⟨rfl,h⟩⟩;unfold runeL Lib.encodeRune;rw [Lib.encodeRuneZ_bad h];rfl
 ·obtain ⟨n,rfl⟩:∃ n:Nat,r = n:=⟨r.toNat,by omega⟩
  refine ⟨n,?_,.inl rfl⟩;have hn:∀ m:Nat,(m:Int).toNat.toUInt8 = UInt8.ofNat m:=fun m=>by rw [Int.toNat_natCast]
  unfold runeL Lib.encodeRune
  by_cases h1:n < 128
  ·rw [Lib.encodeRuneZ_one (by omega) (by omega)];exact .inl ⟨h1,by simp only [List.map_cons,List.map_nil,hn]⟩
  ·by_cases h2:n <= 2047
   ·rw [Lib.encodeRuneZ_two (by omega) (by omega)];refine .inr (.inl ⟨by omega,h2,?_⟩);simp only [List.map_cons,List.map_nil];rw [show (192 + (n:Int) / 64) = ((192 + n / 64:Nat):Int) from by omega,show (128 + (n:Int) % 64) = ((128 + n % 64:Nat):Int) from by omega,hn,hn]
   ·by_cases h3:n <= 65535
    ·rw [Lib.encodeRuneZ_three (by omega)];refine .inr (.inr (.inl ⟨by omega,h3,by omega,?_⟩));simp only [List.map_cons,List.map_nil];rw [show (224 + (n:Int) / 4096) = ((224 + n / 4096:Nat):Int) from by omega,show (128 + (n:Int) / 64 % 64) = ((128 + n / 64 % 64:Nat):Int) from by omega,show (128 + (n:Int) % 64) = ((128 + n % 64:Nat):Int) from by omega,hn,hn,hn]
    ·rw [Lib.encodeRuneZ_four (by omega) (by omega)];refine .inr (.inr (.inr ⟨by omega,by omega,?_⟩));simp only [List.map_cons,List.map_nil];rw [show (240 + (n:Int) / 262144) = ((240 + n / 262144:Nat):Int) from by omega,show (128 + (n:Int) / 4096 % 64) = ((128 + n / 4096 % 64:Nat):Int) from by omega,show (128 + (n:Int) / 64 % 64) = ((128 + n / 64 % 64:Nat):Int) from by omega,show (128 + (n:Int) % 64) = ((128 + n % 64:Nat):Int) from by omega,hn,hn,hn,hn]
theorem runeL_bad {r:Int} (h:r < 0 \/ (55296 <= r /\ r <= 57343) \/ 1114111 < r):runeL r = bad:=by
 unfold runeL Lib.encodeRune;rw [Lib.encodeRuneZ_bad h];rfl
theorem runeL_bad':runeL 65533 = bad:=by decide +kernel
theorem runeL_length (r:Int):1 <= (runeL r).length /\ (runeL r).length <= 4 /\ (r <= 65535 -> (runeL r).length <= 3):=by
 obtain ⟨n,h,hr⟩:=runeL_cases r;rcases h with ⟨_,e⟩ | ⟨_,_,e⟩ | ⟨_,_,_,e⟩ | ⟨h1,_,e⟩
 all_goals rw [e];simp
 omega
def contB (c:UInt8):Bool:=decide (128 <= c.toNat) && decide (c.toNat <= 191)
def wh2 (a:Nat):List UInt8 -> Nat
  | b :: _=>if contB b = true /\ 128 <= 64 * (a - 192) + (b.toNat - 128) then 2 else 0
  | _=>0
def wh3 (a:Nat):List UInt8 -> Nat
  | b :: c :: _=>if contB b = true /\ contB c = true /\ 2048 <= 64 * (64 * (a - 224) + (b.toNat - 128)) + (c.toNat - 128) /\ ¬ (55296 <= 64 * (64 * (a - 224) + (b.toNat - 128)) + (c.toNat - 128) /\ 64 * (64 * (a - 224) + (b.toNat - 128)) + (c.toNat - 128) <= 57343) then 3 else 0
  | _=>0
def wh4 (a:Nat):List UInt8 -> Nat
  | b :: c :: d :: _=>if contB b = true /\ contB c = true /\ contB d = true /\ 65536 <= 64 * (64 * (64 * (a - 240) + (b.toNat - 128)) + (c.toNat - 128)) + (d.toNat - 128) /\ 64 * (64 * (64 * (a - 240) + (b.toNat - 128)) + (c.toNat - 128)) + (d.toNat - 128) <= 1114111 then 4 else 0
  | _=>0
def wholeN:List UInt8 -> Nat
  | []=>0
  | a :: r=>if a.toNat < 128 then 1 else if a.toNat < 192 then 0 else if a.toNat < 224 then wh2 a.toNat r else if a.toNat < 240 then wh3 a.toNat r else if a.toNat < 248 then wh4 a.toNat r else 0
theorem w1 {a:UInt8} {r:List UInt8} (h:a.toNat < 128):wholeN (a :: r) = 1:=by rw [wholeN,if_pos h]
theorem w0 {a:UInt8} {r:List UInt8} (h:128 <= a.toNat) (h':a.toNat < 192 \/ 248 <= a.toNat):wholeN (a :: r) = 0:=by
 rw [wholeN,if_neg (by omega)]
 by_cases h2:a.toNat < 192
 ·rw [if_pos h2]
 ·rw [if_neg h2,if_neg (by omega),if_neg (by omega),if_neg (by omega)]
theorem wN2 {a:UInt8} {r:List UInt8} (h:192 <= a.toNat) (h':a.toNat < 224):wholeN (a :: r) = wh2 a.toNat r:=by
 rw [wholeN,if_neg (by omega),if_neg (by omega),if_pos h']
theorem wN3 {a:UInt8} {r:List UInt8} (h:224 <= a.toNat) (h':a.toNat < 240):wholeN (a :: r) = wh3 a.toNat r:=by
 rw [wholeN,if_neg (by omega),if_neg (by omega),if_neg (by omega),if_pos h']
theorem wN4 {a:UInt8} {r:List UInt8} (h:240 <= a.toNat) (h':a.toNat < 248):wholeN (a :: r) = wh4 a.toNat r:=by
 rw [wholeN,if_neg (by omega),if_neg (by omega),if_neg (by omega),if_neg (by omega),if_pos h']
theorem w2 {a b:UInt8} {r:List UInt8} (h:192 <= a.toNat) (h':a.toNat < 224):wholeN (a :: b :: r) = if contB b = true /\ 128 <= 64 * (a.toNat - 192) + (b.toNat - 128) then 2 else 0:=wN2 h h'
theorem w2' {a:UInt8} (h:192 <= a.toNat) (h':a.toNat < 224):wholeN [a] = 0:=wN2 h h'
theorem w3 {a b c:UInt8} {r:List UInt8} (h:224 <= a.toNat) (h':a.toNat < 240):wholeN (a :: b :: c :: r) = if contB b = true /\ contB c = true /\ 2048 <= 64 * (64 * (a.toNat - 224) + (b.toNat - 128)) + (c.toNat - 128) /\ ¬ (55296 <= 64 * (64 * (a.toNat - 224) + (b.toNat - 128)) + (c.toNat - 128) /\ 64 * (64 * (a.toNat - 224) + (b.toNat - 128)) + (c.toNat - 128) <= 57343) then 3 else 0:=wN3 h h'
theorem w3' {a:UInt8} {r:List UInt8} (h:224 <= a.toNat) (h':a.toNat < 240) (hr:r.length < 2):wholeN (a :: r) = 0:=by
 match r,hr with
 | [],_=>exact wN3 h h'
 | [_],_=>exact wN3 h h'
theorem w4 {a b c d:UInt8} {r:List UInt8} (h:240 <= a.toNat) (h':a.toNat < 248):wholeN (a :: b :: c :: d :: r) = if contB b = true /\ contB c = true /\ contB d = true /\ 65536 <= 64 * (64 * (64 * (a.toNat - 240) + (b.toNat - 128)) + (c.toNat - 128)) + (d.toNat - 128) /\ 64 * (64 * (64 * (a.toNat - 240) + (b.toNat - 128)) + (c.toNat - 128)) + (d.toNat - 128) <= 1114111 then 4 else 0:=wN4 h h'
theorem w4' {a:UInt8} {r:List UInt8} (h:240 <= a.toNat) (h':a.toNat < 248) (hr:r.length < 3):wholeN (a :: r) = 0:=by
 match r,hr with
 | [],_=>exact wN4 h h'
 | [_],_=>exact wN4 h h'
 | [_,_],_=>exact wN4 h h'
theorem contB_iff (c:UInt8):contB c = true ↔ 128 <= c.toNat /\ c.toNat <= 191:=by simp [contB]
theorem whole_cases (l:List UInt8):wholeN l = 0 \/ (∃ a r,l = a :: r /\ a.toNat < 128 /\ wholeN l = 1) \/
  (∃ a b r,l = a :: b :: r /\ 192 <= a.toNat /\ a.toNat < 224 /\ contB b = true /\ 128 <= 64 * (a.toNat - 192) + (b.toNat - 128) /\ wholeN l = 2) \/
  (∃ a b c r,l = a :: b :: c :: r /\ 224 <= a.toNat /\ a.toNat < 240 /\ contB b = true /\ contB c = true /\ 2048 <= 64 * (64 * (a.toNat - 224) + (b.toNat - 128)) + (c.toNat - 128) /\ ¬ (55296 <= 64 * (64 * (a.toNat - 224) + (b.toNat - 128)) + (c.toNat - 128) /\ 64 * (64 * (a.toNat - 224) + (b.toNat - 128)) + (c.toNat - 128) <= 57343) /\ wholeN l = 3) \/
  (∃ a b c d r,l = a :: b :: c :: d :: r /\ 240 <= a.toNat /\ a.toNat < 248 /\ contB b = true /\ contB c = true /\ contB d = true /\ 65536 <= 64 * (64 * (64 * (a.toNat - 240) + (b.toNat - 128)) + (c.toNat - 128)) + (d.toNat - 128) /\ 64 * (64 * (64 * (a.toNat - 240) + (b.toNat - 128)) + (c.toNat - 128)) + (d.toNat - 128) <= 1114111 /\ wholeN l = 4):=by
 match l with
 | []=>exact .inl rfl
 | a :: r =>
  by_cases h1:a.toNat < 128
  ·exact .inr (.inl ⟨a,r,rfl,h1,w1 h1⟩)
  by_cases h2:a.toNat < 192
  ·exact .inl (w0 (by omega) (.inl h2))
  by_cases h3:a.toNat < 224
  ·match r with
   | []=>exact .inl (w2' (by omega) h3)
   | b :: r =>
    have e:=w2 (b:=b) (r:=r) (by omega) h3
    by_cases hc:contB b = true /\ 128 <= 64 * (a.toNat - 192) + (b.toNat - 128)
    ·rw [if_pos hc] at e;exact .inr (.inr (.inl ⟨a,b,r,rfl,by omega,h3,hc.1,hc.2,e⟩))
    ·rw [if_neg hc] at e;exact .inl e
  by_cases h4:a.toNat < 240
  ·match r with
   | []=>exact .inl (w3' (by omega) h4 (by simp))
   | [_]=>exact .inl (w3' (by omega) h4 (by simp))
   | b :: c :: r =>
    have e:=w3 (b:=b) (c:=c) (r:=r) (by omega) h4;split at e
    ·rename_i hc;exact .inr (.inr (.inr (.inl ⟨a,b,c,r,rfl,by omega,h4,hc.1,hc.2.1,hc.2.2.1,hc.2.2.2,e⟩)))
    ·exact .inl e
  by_cases h5:a.toNat < 248
  ·match r with
   | []=>exact .inl (w4' (by omega) h5 (by simp))
   | [_]=>exact .inl (w4' (by omega) h5 (by simp))
   | [_,_]=>exact .inl (w4' (by omega) h5 (by simp))
   | b :: c :: d :: r =>
    have e:=w4 (b:=b) (c:=c) (d:=d) (r:=r) (by omega) h5;split at e
    ·rename_i hc;exact .inr (.inr (.inr (.inr ⟨a,b,c,d,r,rfl,by omega,h5,hc.1,hc.2.1,hc.2.2.1,hc.2.2.2.1,hc.2.2.2.2,e⟩)))
    ·exact .inl e
  ·exact .inl (w0 (by omega) (.inr (by omega)))
theorem wholeN_le (l:List UInt8):wholeN l <= l.length /\ wholeN l <= 4:=by
 rcases whole_cases l with e | ⟨a,r,rfl,_,e⟩ | ⟨a,b,r,rfl,_,_,_,_,e⟩ | ⟨a,b,c,r,rfl,_,_,_,_,_,_,e⟩ | ⟨a,b,c,d,r,rfl,_,_,_,_,_,_,_,e⟩
 all_goals rw [e];simp
theorem whole_local (l t:List UInt8) (h:0 < wholeN l):wholeN (l.take (wholeN l) ++ t) = wholeN l:=by
 rcases whole_cases l with e | ⟨a,r,rfl,h1,e⟩ | ⟨a,b,r,rfl,h1,h2,h3,h4,e⟩ | ⟨a,b,c,r,rfl,h1,h2,h3,h4,h5,h6,e⟩ | ⟨a,b,c,d,r,rfl,h1,h2,h3,h4,h5,h6,h7,e⟩
 ·omega
 ·rw [e];exact w1 h1
 ·rw [e];show wholeN (a :: b :: t) = 2
  rw [w2 h1 h2,if_pos ⟨h3,h4⟩]
 ·rw [e];show wholeN (a :: b :: c :: t) = 3
  rw [w3 h1 h2,if_pos ⟨h3,h4,h5,h6⟩]
 ·rw [e];show wholeN (a :: b :: c :: d :: t) = 4
  rw [w4 h1 h2,if_pos ⟨h3,h4,h5,h6,h7⟩]
theorem u8n {n:Nat} (h:n < 256):(UInt8.ofNat n).toNat = n:=by rw [UInt8.toNat_ofNat',Nat.mod_eq_of_lt h]
theorem u8b {n:Nat} {c:UInt8} (h:n = c.toNat):UInt8.ofNat n = c:=by subst h;exact UInt8.ofNat_toNat
theorem whole_rune (r:Int) (t:List UInt8):wholeN (runeL r ++ t) = (runeL r).length:=by
 obtain ⟨n,h,_⟩:=runeL_cases r;rcases h with ⟨h1,e⟩ | ⟨h1,h2,e⟩ | ⟨h1,h2,h3,e⟩ | ⟨h1,h2,e⟩
 ·rw [e];exact w1 (by rw [u8n (by omega)];exact h1)
 ·rw [e];show wholeN (_ :: _ :: t) = 2
  have e1:=u8n (n:=192 + n / 64) (by omega);have e2:=u8n (n:=128 + n % 64) (by omega);rw [w2 (by rw [e1];omega) (by rw [e1];omega),if_pos ⟨(contB_iff _).2 (by rw [e2];omega),by rw [e1,e2];omega⟩]
 ·rw [e];show wholeN (_ :: _ :: _ :: t) = 3
  have e1:=u8n (n:=224 + n / 4096) (by omega);have e2:=u8n (n:=128 + n / 64 % 64) (by omega);have e3:=u8n (n:=128 + n % 64) (by omega);rw [w3 (by rw [e1];omega) (by rw [e1];omega),if_pos ⟨(contB_iff _).2 (by rw [e2];omega),(contB_iff _).2 (by rw [e3];omega),by rw [e1,e2,e3];omega,by rw [e1,e2,e3];omega⟩]
 ·rw [e];show wholeN (_ :: _ :: _ :: _ :: t) = 4
  have e1:=u8n (n:=240 + n / 262144) (by omega);have e2:=u8n (n:=128 + n / 4096 % 64) (by omega);have e3:=u8n (n:=128 + n / 64 % 64) (by omega);have e4:=u8n (n:=128 + n % 64) (by omega);rw [w4 (by rw [e1];omega) (by rw [e1];omega),if_pos ⟨(contB_iff _).2 (by rw [e2];omega),(contB_iff _).2 (by rw [e3];omega),(contB_iff _).2 (by rw [e4];omega),by rw [e1,e2,e3,e4];omega,by rw [e1,e2,e3,e4];omega⟩]
def dec4 (b0:Nat) (c1:Bool) (x1:Nat) (c2:Bool) (x2:Nat) (c3:Bool) (x3:Nat):Nat × Nat :=
  if b0 < 0x80 then (b0,1)
  else if b0 / 32 == 6 && c1 then
    if (b0 % 32) * 64 + x1 % 64 >= 0x80 then ((b0 % 32) * 64 + x1 % 64,2) else (Utf8.runeError,1)
  else if b0 / 16 == 14 && c1 && c2 then
    if (b0 % 16) * 4096 + (x1 % 64) * 64 + x2 % 64 >= 0x800 && Utf8.valid ((b0 % 16) * 4096 + (x1 % 64) * 64 + x2 % 64:Nat) then ((b0 % 16) * 4096 + (x1 % 64) * 64 + x2 % 64,3) else (Utf8.runeError,1)
  else if b0 / 8 == 30 && c1 && c2 && c3 then
    if (b0 % 8) * 262144 + (x1 % 64) * 4096 + (x2 % 64) * 64 + x3 % 64 >= 0x10000 && Utf8.valid ((b0 % 8) * 262144 + (x1 % 64) * 4096 + (x2 % 64) * 64 + x3 % 64:Nat) then ((b0 % 8) * 262144 + (x1 % 64) * 4096 + (x2 % 64) * 64 + x3 % 64,4) else (Utf8.runeError,1)
  else (Utf8.runeError,1)
theorem decode_dec4 (s:ByteArray) (i:Nat):Utf8.decode s i = dec4 (s.get! (i + 0)).toNat (i + 1 < s.size && (s.get! (i + 1)).toNat / 64 == 2) (s.get! (i + 1)).toNat (i + 2 < s.size && (s.get! (i + 2)).toNat / 64 == 2) (s.get! (i + 2)).toNat (i + 3 < s.size && (s.get! (i + 3)).toNat / 64 == 2) (s.get! (i + 3)).toNat:=rfl
theorem valid_iff (n:Nat):Utf8.valid (n:Int) = true ↔ n < 55296 \/ (57344 <= n /\ n <= 1114111):=by
 unfold Utf8.valid;simp only [Bool.or_eq_true,Bool.and_eq_true,decide_eq_true_eq];omega
def vStep (l:List UInt8):List UInt8 × Nat:=if wholeN l = 0 then (bad,1) else (l.take (wholeN l),wholeN l)
theorem runeL_one {n:Nat} (h:n < 128):runeL n = [UInt8.ofNat n]:=by
 obtain ⟨m,hm,e⟩:=runeL_cases n;have:m = n:=by rcases e with e | ⟨_,e⟩ <;> omega
 subst this;rcases hm with ⟨_,e⟩ | ⟨_,_,e⟩ | ⟨_,_,_,e⟩ | ⟨_,_,e⟩
 ·exact e
 all_goals omega
theorem runeL_two {n:Nat} (h:128 <= n) (h':n <= 2047):runeL n = [UInt8.ofNat (192 + n / 64),UInt8.ofNat (128 + n % 64)]:=by
 obtain ⟨m,hm,e⟩:=runeL_cases n;have:m = n:=by rcases e with e | ⟨_,e⟩ <;> omega
 subst this;rcases hm with ⟨_,e⟩ | ⟨_,_,e⟩ | ⟨_,_,_,e⟩ | ⟨_,_,e⟩
 ·omega
 ·exact e
 all_goals omega
theorem runeL_three {n:Nat} (h:2048 <= n) (h':n <= 65535) (h2:¬ (55296 <= n /\ n <= 57343)):runeL n = [UInt8.ofNat (224 + n / 4096),UInt8.ofNat (128 + n / 64 % 64),UInt8.ofNat (128 + n % 64)]:=by
 obtain ⟨m,hm,e⟩:=runeL_cases n;have:m = n:=by rcases e with e | ⟨_,e⟩ <;> omega
 subst this;rcases hm with ⟨_,e⟩ | ⟨_,_,e⟩ | ⟨_,_,_,e⟩ | ⟨_,_,e⟩
 ·omega
 ·omega
 ·exact e
 ·omega
theorem runeL_four {n:Nat} (h:65536 <= n) (h':n <= 1114111):runeL n = [UInt8.ofNat (240 + n / 262144),UInt8.ofNat (128 + n / 4096 % 64),UInt8.ofNat (128 + n / 64 % 64),UInt8.ofNat (128 + n % 64)]:=by
 obtain ⟨m,hm,e⟩:=runeL_cases n;have:m = n:=by rcases e with e | ⟨_,e⟩ <;> omega
 subst this;rcases hm with ⟨_,e⟩ | ⟨_,_,e⟩ | ⟨_,_,_,e⟩ | ⟨_,_,e⟩
 iterate 3
  ·omega
 ·exact e
theorem cont_div (c:UInt8):(c.toNat / 64 == 2) = contB c:=by
 unfold contB;rw [Bool.eq_iff_iff];simp only [beq_iff_eq,Bool.and_eq_true,decide_eq_true_eq];omega
def decL:List UInt8 -> Nat × Nat
  | []=>(65533,1)
  | a :: r=>dec4 a.toNat ((r[0]?).elim false contB) ((r[0]?).elim 0 (·.toNat)) ((r[1]?).elim false contB) ((r[1]?).elim 0 (·.toNat)) ((r[2]?).elim false contB) ((r[2]?).elim 0 (·.toNat))
theorem decode_decL (s:ByteArray) (i:Nat) (h:i < s.size):Utf8.decode s i = decL (s.data.toList.drop i):=by
 have hl:(s.data.toList.drop i).length = s.size - i:=by rw [List.length_drop,toList_length]
 have key:∀ k,((decide (i + (k + 1) < s.size) && (s.get! (i + (k + 1))).toNat / 64 == 2) = ((s.data.toList.drop (i + 1))[k]?).elim false contB) /\ ((s.get! (i + (k + 1))).toNat = ((s.data.toList.drop (i + 1))[k]?).elim 0 (·.toNat)):=by
  intro k;rw [List.getElem?_drop]
  by_cases hk:i + (k + 1) < s.size
  ·have e:s.data.toList[i + 1 + k]? = some (s.get! (i + (k + 1))):=by
    rw [List.getElem?_eq_getElem (by rw [toList_length];omega)]
    congr 1
    have e:=get_at s (i + (k + 1)) hk;rw [Nat.add_zero] at e;rw [e];have e2:i + 1 + k = i + (k + 1):=by omega
    simp only [e2,Array.getElem_toList];rfl
   rw [e];rw [decide_eq_true hk,Bool.true_and,cont_div];exact ⟨rfl,rfl⟩
  ·have e:s.data.toList[i + 1 + k]? = none:=List.getElem?_eq_none (by rw [toList_length];omega);rw [e];rw [decide_eq_false hk,Bool.false_and];refine ⟨rfl,?_⟩
   have:s.get! (i + (k + 1)) = default:=by
    simp [ByteArray.get!];rw [getElem!_neg];exact hk
   rw [this];rfl
 rw [decode_dec4,drop_cons s i h];have k0:=key 0;have k1:=key 1;have k2:=key 2;have e0:s.get! (i + 0) = s[i]:=get_at s i h;simp only [Nat.zero_add] at k0;unfold decL;simp only;rw [e0,k0.1,k1.1,k2.1,k0.2,k1.2,k2.2]
theorem d1 {b0:Nat} {c1 c2 c3:Bool} {x1 x2 x3:Nat} (h:b0 < 128):dec4 b0 c1 x1 c2 x2 c3 x3 = (b0,1):=if_pos h
theorem d0 {b0:Nat} {c1 c2 c3:Bool} {x1 x2 x3:Nat} (h:128 <= b0) (h':b0 < 192 \/ 248 <= b0) (h2:b0 < 256):dec4 b0 c1 x1 c2 x2 c3 x3 = (65533,1):=by
 have e0:¬ b0 < 128:=by omega
 have e1:b0 / 32 ≠ 6:=by omega
 have e2:b0 / 16 ≠ 14:=by omega
 have e3:b0 / 8 ≠ 30:=by omega
 simp [dec4,e0,e1,e2,e3,Utf8.runeError]
theorem d2 {b0:Nat} {c1 c2 c3:Bool} {x1 x2 x3:Nat} (h:192 <= b0) (h':b0 < 224):dec4 b0 c1 x1 c2 x2 c3 x3 = if c1 = true /\ 128 <= (b0 % 32) * 64 + x1 % 64 then ((b0 % 32) * 64 + x1 % 64,2) else (65533,1):=by
 have e0:¬ b0 < 128:=by omega
 have e1:b0 / 32 = 6:=by omega
 have e2:b0 / 16 ≠ 14:=by omega
 have e3:b0 / 8 ≠ 30:=by omega
 cases c1 <;> simp [dec4,e0,e1,e2,e3,Utf8.runeError]
theorem d3 {b0:Nat} {c1 c2 c3:Bool} {x1 x2 x3:Nat} (h:224 <= b0) (h':b0 < 240):dec4 b0 c1 x1 c2 x2 c3 x3 = if c1 = true /\ c2 = true /\ 2048 <= (b0 % 16) * 4096 + (x1 % 64) * 64 + x2 % 64 /\ Utf8.valid ((b0 % 16) * 4096 + (x1 % 64) * 64 + x2 % 64:Nat) = true then ((b0 % 16) * 4096 + (x1 % 64) * 64 + x2 % 64,3) else (65533,1):=by
 have e0:¬ b0 < 128:=by omega
 have e1:b0 / 32 ≠ 6:=by omega
 have e2:b0 / 16 = 14:=by omega
 have e3:b0 / 8 ≠ 30:=by omega
 cases c1 <;> cases c2 <;> simp [dec4,e0,e1,e2,e3,Utf8.runeError]
theorem d4 {b0:Nat} {c1 c2 c3:Bool} {x1 x2 x3:Nat} (h:240 <= b0) (h':b0 < 248):dec4 b0 c1 x1 c2 x2 c3 x3 = if c1 = true /\ c2 = true /\ c3 = true /\ 65536 <= (b0 % 8) * 262144 + (x1 % 64) * 4096 + (x2 % 64) * 64 + x3 % 64 /\ Utf8.valid ((b0 % 8) * 262144 + (x1 % 64) * 4096 + (x2 % 64) * 64 + x3 % 64:Nat) = true then ((b0 % 8) * 262144 + (x1 % 64) * 4096 + (x2 % 64) * 64 + x3 % 64,4) else (65533,1):=by
 have e0:¬ b0 < 128:=by omega
 have e1:b0 / 32 ≠ 6:=by omega
 have e2:b0 / 16 ≠ 14:=by omega
 have e3:b0 / 8 = 30:=by omega
 cases c1 <;> cases c2 <;> cases c3 <;> simp [dec4,e0,e1,e2,e3,Utf8.runeError]
theorem vStep_zero {l:List UInt8} (h:wholeN l = 0):vStep l = (bad,1):=if_pos h
theorem vStep_pos {l:List UInt8} {n:Nat} (h:wholeN l = n) (hn:n ≠ 0):vStep l = (l.take n,n):=by
 unfold vStep;rw [if_neg (by omega),h]
theorem decL_spec (l:List UInt8) (hl:l ≠ []):runeL (decL l).1 = (vStep l).1 /\ (decL l).2 = (vStep l).2 /\ (decL l).1 <= 1114111:=by
 have hbad:∀ {l:List UInt8},decL l = (65533,1) -> wholeN l = 0 -> runeL (decL l).1 = (vStep l).1 /\ (decL l).2 = (vStep l).2 /\ (decL l).1 <= 1114111:=by
  intro l h1 h2;rw [h1,vStep_zero h2];exact ⟨runeL_bad',rfl,by decide⟩
 match l,hl with
 | a :: r,_ =>
  have ha:=byte_lt a
  by_cases h1:a.toNat < 128
  ·have e:decL (a :: r) = (a.toNat,1):=d1 h1;rw [e,vStep_pos (w1 h1) (by decide)];refine ⟨?_,rfl,by show a.toNat <= _;omega⟩;show runeL a.toNat = [a]
   rw [runeL_one h1,u8b rfl]
  by_cases h2:a.toNat < 192
  ·exact hbad (d0 (by omega) (.inl h2) ha) (w0 (by omega) (.inl h2))
  by_cases h3:a.toNat < 224
  ·match r with
   | []=>exact hbad (by unfold decL;simp only [];rw [d2 (by omega) h3];exact if_neg (fun h=>by cases h.1)) (w2' (by omega) h3)
   | b :: r =>
    have e:decL (a :: b :: r) = if contB b = true /\ 128 <= (a.toNat % 32) * 64 + b.toNat % 64 then ((a.toNat % 32) * 64 + b.toNat % 64,2) else (65533,1):=d2 (by omega) h3
    have ew:=w2 (b:=b) (r:=r) (by omega) h3;have hb:=contB_iff b
    by_cases hc:contB b = true /\ 128 <= 64 * (a.toNat - 192) + (b.toNat - 128)
    ·have hb':=hb.1 hc.1;have hv:(a.toNat % 32) * 64 + b.toNat % 64 = 64 * (a.toNat - 192) + (b.toNat - 128):=by omega
     rw [if_pos hc] at ew;rw [if_pos ⟨hc.1,by omega⟩] at e;rw [e,vStep_pos ew (by decide),hv];refine ⟨?_,rfl,by show 64 * (a.toNat - 192) + (b.toNat - 128) <= _;omega⟩;show runeL ((64 * (a.toNat - 192) + (b.toNat - 128):Nat):Int) = [a,b]
     rw [runeL_two hc.2 (by omega),u8b (c:=a) (by omega),u8b (c:=b) (by omega)]
    ·rw [if_neg hc] at ew;refine hbad (e.trans (if_neg (fun h=>hc ⟨h.1,?_⟩))) ew;have hb':=hb.1 h.1;omega
  by_cases h4:a.toNat < 240
  ·match r with
   | []=>exact hbad (by unfold decL;simp only [];rw [d3 (by omega) h4];exact if_neg (fun h=>by cases h.1)) (w3' (by omega) h4 (by simp))
   | [_]=>exact hbad (by unfold decL;simp only [];rw [d3 (by omega) h4];exact if_neg (fun h=>by cases h.2.1)) (w3' (by omega) h4 (by simp))
   | b :: c :: r =>
    have e:decL (a :: b :: c :: r) = if contB b = true /\ contB c = true /\ 2048 <= (a.toNat % 16) * 4096 + (b.toNat % 64) * 64 + c.toNat % 64 /\ Utf8.valid ((a.toNat % 16) * 4096 + (b.toNat % 64) * 64 + c.toNat % 64:Nat) = true then ((a.toNat % 16) * 4096 + (b.toNat % 64) * 64 + c.toNat % 64,3) else (65533,1):=d3 (by omega) h4
    have ew:=w3 (b:=b) (c:=c) (r:=r) (by omega) h4;have hb:=contB_iff b;have hcc:=contB_iff c;split at ew
    ·rename_i hc;have hb':=hb.1 hc.1;have hc':=hcc.1 hc.2.1;have hv:(a.toNat % 16) * 4096 + (b.toNat % 64) * 64 + c.toNat % 64 = 64 * (64 * (a.toNat - 224) + (b.toNat - 128)) + (c.toNat - 128):=by omega
     have h5:=hc.2.2;rw [<- hv] at h5;rw [if_pos ⟨hc.1,hc.2.1,h5.1,(valid_iff _).2 (by omega)⟩] at e;rw [e,vStep_pos ew (by decide)];refine ⟨?_,rfl,by show (a.toNat % 16) * 4096 + (b.toNat % 64) * 64 + c.toNat % 64 <= _;omega⟩;show runeL (((a.toNat % 16) * 4096 + (b.toNat % 64) * 64 + c.toNat % 64:Nat):Int) = [a,b,c]
     rw [runeL_three h5.1 (by omega) h5.2,u8b (c:=a) (by omega),u8b (c:=b) (by omega),u8b (c:=c) (by omega)]
    ·rename_i hc;refine hbad (e.trans (if_neg (fun h=>hc ⟨h.1,h.2.1,?_⟩))) ew;have hb':=hb.1 h.1;have hc':=hcc.1 h.2.1;have hvv:=(valid_iff _).1 h.2.2.2;omega
  by_cases h5:a.toNat < 248
  ·match r with
   | []=>exact hbad (by unfold decL;simp only [];rw [d4 (by omega) h5];exact if_neg (fun h=>by cases h.1)) (w4' (by omega) h5 (by simp))
   | [_]=>exact hbad (by unfold decL;simp only [];rw [d4 (by omega) h5];exact if_neg (fun h=>by cases h.2.1)) (w4' (by omega) h5 (by simp))
   | [_,_]=>exact hbad (by unfold decL;simp only [];rw [d4 (by omega) h5];exact if_neg (fun h=>by cases h.2.2.1)) (w4' (by omega) h5 (by simp))
   | b :: c :: d :: r =>
    have e:decL (a :: b :: c :: d :: r) = if contB b = true /\ contB c = true /\ contB d = true /\ 65536 <= (a.toNat % 8) * 262144 + (b.toNat % 64) * 4096 + (c.toNat % 64) * 64 + d.toNat % 64 /\ Utf8.valid ((a.toNat % 8) * 262144 + (b.toNat % 64) * 4096 + (c.toNat % 64) * 64 + d.toNat % 64:Nat) = true then ((a.toNat % 8) * 262144 + (b.toNat % 64) * 4096 + (c.toNat % 64) * 64 + d.toNat % 64,4) else (65533,1):=d4 (by omega) h5
    have ew:=w4 (b:=b) (c:=c) (d:=d) (r:=r) (by omega) h5;have hb:=contB_iff b;have hcc:=contB_iff c;have hdd:=contB_iff d;split at ew
    ·rename_i hc;have hb':=hb.1 hc.1;have hc':=hcc.1 hc.2.1;have hd':=hdd.1 hc.2.2.1;have hv:(a.toNat % 8) * 262144 + (b.toNat % 64) * 4096 + (c.toNat % 64) * 64 + d.toNat % 64 = 64 * (64 * (64 * (a.toNat - 240) + (b.toNat - 128)) + (c.toNat - 128)) + (d.toNat - 128):=by omega
     have h5:=hc.2.2.2;rw [<- hv] at h5;rw [if_pos ⟨hc.1,hc.2.1,hc.2.2.1,h5.1,(valid_iff _).2 (by omega)⟩] at e;rw [e,vStep_pos ew (by decide)];refine ⟨?_,rfl,h5.2⟩;show runeL (((a.toNat % 8) * 262144 + (b.toNat % 64) * 4096 + (c.toNat % 64) * 64 + d.toNat % 64:Nat):Int) = [a,b,c,d]
     rw [runeL_four h5.1 h5.2,u8b (c:=a) (by omega),u8b (c:=b) (by omega),u8b (c:=c) (by omega),u8b (c:=d) (by omega)]
    ·rename_i hc;refine hbad (e.trans (if_neg (fun h=>hc ⟨h.1,h.2.1,h.2.2.1,?_⟩))) ew;have hb':=hb.1 h.1;have hc':=hcc.1 h.2.1;have hd':=hdd.1 h.2.2.1;have hvv:=(valid_iff _).1 h.2.2.2.2;omega
  ·exact hbad (d0 (by omega) (.inr (by omega)) ha) (w0 (by omega) (.inr (by omega)))
def whiteSet:List UInt8:=[32,9,10,12,13]
def strVals (l:List ByteArray):List Value:=l.map fun s=>Value.string s
def SBuf (B:Nat) (v:Value) (l:List ByteArray) (W0 w:World):Prop :=
  w.ownsRow B 9 1 v l.length (strVals l) /\ Below B W0 w /\ B <= w.heap.size
theorem info_str:(Tryz.prog.info? 9).map (fun i=>(i.zero,i.size,i.bytes)) = some (some (.string ByteArray.empty),1,16):=by kernel_rfl
theorem SBuf.nil {B:Nat} {W0 w:World} (hb:Below B W0 w) (hB:B <= w.heap.size):SBuf B (.slice none 0 0) [] W0 w:=⟨World.ownsRow_nil w B _ 1,hb,hB⟩
theorem SBuf.below {B:Nat} {v:Value} {l:List ByteArray} {W0 w:World} (h:SBuf B v l W0 w):Below B W0 w:=h.2.1
theorem SBuf.grown {B:Nat} {v v':Value} {l l':List ByteArray} {W0 w w':World} (h:SBuf B v l W0 w) (ho:w'.ownsRow B 9 1 v' l'.length (strVals l')) (hg:w.grownBy w' v.ownBlock):SBuf B v' l' W0 w' :=
 ⟨ho,h.2.1.grown hg h.2.2 (fun k hk=>(h.1.lt k hk).1),Nat.le_trans h.2.2 hg.size⟩
theorem SBuf.alloc {B:Nat} {v:Value} {l:List ByteArray} {W0 w:World} (h:SBuf B v l W0 w) (o:Obj):SBuf B v l W0 (w.alloc o) :=
 ⟨h.1.alloc o,h.2.1.alloc h.2.2 o,Nat.le_trans h.2.2 ((Below.refl 0 w).alloc (Nat.zero_le _) o).size⟩
theorem SBuf.drew {B:Nat} {v:Value} {l:List ByteArray} {W0 w:World} (h:SBuf B v l W0 w):SBuf B v l W0 w.drew:=⟨h.1,h.2.1.drew,h.2.2⟩
theorem SBuf.kept {B:Nat} {v:Value} {l:List ByteArray} {W0 w w':World} (h:SBuf B v l W0 w) (hb:Below w.heap.size w w'):SBuf B v l W0 w' :=
 ⟨h.1.kept (row:=none) ⟨hb.os,hb.tape,hb.output,hb.size,fun k hk _=>hb.block k hk⟩ (by cases hv:v.ownBlock <;> simp),h.2.1.trans (hb.mono h.2.2),Nat.le_trans h.2.2 hb.size⟩
theorem SBuf.slice_len {B:Nat} {v:Value} {l:List ByteArray} {W0 w:World} (h:SBuf B v l W0 w):∃ A c,v = .slice A l.length c:=by
 rcases h.1.2 with ⟨rfl,h0⟩ | ⟨g,cap,cur,rfl,_⟩
 ·rw [h0];exact ⟨_,_,rfl⟩
 ·exact ⟨_,_,rfl⟩
theorem SBuf.form {B:Nat} {v:Value} {l:List ByteArray} {W0 w:World} (h:SBuf B v l W0 w):(v = .slice none 0 0 /\ l = []) \/ ∃ g cap,v = .slice (some ⟨g,0,none⟩) l.length cap /\ l.length <= cap /\ cap <= maxLen /\ B <= g /\ g < w.heap.size /\ ∀ (j:Nat) x,l[j]? = some x -> w.cell? ⟨g,0 + j,none⟩ = some (.string x):=by
 have h1:=h.1;rcases h.1.2 with ⟨rfl,h0⟩ | ⟨g,cap,cur,rfl,hg,hh,hc,hm,_⟩
 ·exact .inl ⟨rfl,List.eq_nil_of_length_eq_zero h0⟩
 ·refine .inr ⟨g,cap,rfl,hc,hm,hg,?_,fun j x hj=>?_⟩
  ·rcases Nat.lt_or_ge g w.heap.size with h2 | h2
   ·exact h2
   ·rw [Array.getElem?_eq_none h2] at hh;cases hh
  ·have hlt:=(List.getElem?_eq_some_iff.1 hj).1;rw [Nat.zero_add,h1.cellAt j (by omega)];simp [strVals,hj]
def withinB (lo hi:Int) (l:List UInt8):Bool:=l.all fun c=>decide (lo <= (c.toNat:Int)) && decide ((c.toNat:Int) <= hi)
theorem within_yes {lo hi:Int} {c:UInt8} {r:List UInt8} (h:lo <= (c.toNat:Int)) (h':(c.toNat:Int) <= hi):withinB lo hi (c :: r) = withinB lo hi r:=by simp [withinB,h,h']
theorem within_no {lo hi:Int} {c:UInt8} {r:List UInt8} (h:(c.toNat:Int) < lo \/ hi < (c.toNat:Int)):withinB lo hi (c :: r) = false:=by
 simp only [withinB,List.all_cons];rcases h with h | h
 ·rw [decide_eq_false (Int.not_le.2 h)];rfl
 ·rw [decide_eq_false (p:=(c.toNat:Int) <= hi) (Int.not_le.2 h),Bool.and_false,Bool.false_and]
theorem within_any (s:ByteArray) (lo hi:Int) (w:World) (hs:s.size <= maxLen) :
  Calls Tryz.prog 153 #[.string s,.int .u8 lo,.int .u8 hi] w fun e w'=>e = .returned (.bool (withinB lo hi s.data.toList)) /\ w = w':=by
 unfold maxLen at hs;go_enter Tryz.func153,Tryz.ntmps153;go_wp2;go_loop [10] (fun i=>∃ k:Nat,k <= s.size /\ i = .int .i64 k /\ withinB lo hi (s.data.toList.drop k) = withinB lo hi s.data.toList) (fun i=>s.size - (intOf i).toNat)
 case atStart=>exact ⟨0,Nat.zero_le _,rfl,by rw [List.drop_zero]⟩
 case round =>
  obtain ⟨k,hk,rfl,hd⟩:=hrel
  by_cases hlt:k < s.size
  ·have hc:=drop_cons s k hlt;rw [hc] at hd
   by_cases h1:(s[k].toNat:Int) < lo
   ·have HF:Hid (withinB lo hi s.data.toList = false):=hide (by rw [<- hd];exact within_no (.inl h1));have t1:decide ((s[k].toNat:Int) < lo) = true:=decide_eq_true h1;clear hd hc h1;go_wp2;go_ret;exact ⟨ret_bool HF.out.symm,rfl⟩
   ·have t1:decide ((s[k].toNat:Int) < lo) = false:=decide_eq_false h1
    by_cases h2:hi < (s[k].toNat:Int)
    ·have HF:Hid (withinB lo hi s.data.toList = false):=hide (by rw [<- hd];exact within_no (.inr h2));have t2:decide (hi < (s[k].toNat:Int)) = true:=decide_eq_true h2;clear hd hc h1 h2;go_wp2;go_ret;exact ⟨ret_bool HF.out.symm,rfl⟩
    ·have HF:=hide ((within_yes (r:=s.data.toList.drop (k + 1)) (Int.not_lt.1 h1) (Int.not_lt.1 h2)).symm.trans hd);have t2:decide (hi < (s[k].toNat:Int)) = false:=decide_eq_false h2;clear hd hc h1 h2;go_wp2;go_round
     case rel=>exact ⟨k + 1,by omega,by go_num,HF.out⟩
     case measure=>simp [intOf];omega
  ·have HF:Hid (withinB lo hi s.data.toList = true):=hide (by rw [<- hd,drop_nil s k (by omega)];rfl);clear hd;go_wp2;go_ret;exact ⟨ret_bool HF.out.symm,rfl⟩
def letters64:List UInt8:=[65,66,67,68,69,70,71,72,73,74,75,76,77,78,79,80,81,82,83,84,85,86,87,88,89,90,97,98,99,100,101,102,103,104,105,106,107,108,109,110,111,112,113,114,115,116,117,118,119,120,121,122,48,49,50,51,52,53,54,55,56,57,43,47]
def val (c:UInt8):Nat:=letters64.idxOf c
def StrsIn (w:World) (v:Value) (l:List ByteArray):Prop :=
  (v = .slice none 0 0 /\ l = []) \/ ∃ a cap,v = .slice (some a) l.length cap /\ l.length <= cap /\ cap <= maxLen /\ (∀ j (h:j < l.length),w.cell? (a.add j) = some (.string (l[j]'h))) /\ ∀ j (h:j < l.length),(l[j]'h).size <= maxLen
theorem StrsIn.kept {w w':World} {v:Value} {l:List ByteArray} (h:StrsIn w v l) (hb:Below w.heap.size w w'):StrsIn w' v l:=by
 rcases h with h | ⟨a,cap,h1,h2,h3,h4,h5⟩
 ·exact .inl h
 ·refine .inr ⟨a,cap,h1,h2,h3,fun j hj=>?_,h5⟩;have hc:=h4 j hj;exact (hb.cell (World.block_lt_of_cell? _ _ hc)).trans hc
theorem StrsIn.form {w:World} {v:Value} {l:List ByteArray} (h:StrsIn w v l):∃ a cap,v = .slice a l.length cap:=by
 rcases h with ⟨rfl,rfl⟩ | ⟨a,cap,rfl,_⟩
 ·exact ⟨_,_,rfl⟩
 ·exact ⟨_,_,rfl⟩
end Go.Proofs.YtmgpmdfmkdhfgaaGreatDoor
