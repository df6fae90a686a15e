/- More of the first texts of this claim in one: each with its own head. No statement is proved here. -/
import Derived.Test.YtiejmkjpgjbodaaGreatDoorBaseP
import Derived.Test.YtiejmkjpgjbodaaGreatDoorBaseN
import Derived.Laws.OwnMore
import Derived.BigQuiet
import Derived.Deep.QuietTactic
import Derived.BigRegion
import Derived.Lib.AppendStr
import Derived.Deep.LoopGhost
import Derived.IntWalk
import Derived.Test.YtiejmkjpgjbodaaGreatDoorBaseO
import Derived.Test.YtiejmkjpgjbodaaGreatDoorBaseM
import Derived.Test.YtiejmkjpgjbodaaGreatDoorShelf
import Derived.Laws.Runes
import Derived.WalkMore
import Derived.Laws.RangeAny
import Derived.Shelf.Strings.IndexAnyAll
import Derived.Shelf.Strings.SlTrimAscii
namespace Go.Proofs.YtiejmkjpgjbodaaGreatDoor
open Go.RowKit
set_option linter.unusedVariables false
set_option linter.unusedSimpArgs false
set_option maxRecDepth 100000
set_option maxHeartbeats 16000000
abbrev KidV:=(NdH × Tr) × (Value × Value)
def nodeVals (ks:List KidV):List Value:=ks.flatMap fun p=>[.string (str p.1.1.name),p.2.1,.string (str p.1.1.text),p.2.2]
theorem nodeVals_length (ls:List KidV):(nodeVals ls).length = ls.length * 4:=by
 induction ls with
 | nil=>rfl
 | cons f r ih=>unfold nodeVals at *;rw [List.flatMap_cons,List.length_append,ih];simp;omega
theorem nodeVals_append (a b:List KidV):nodeVals (a ++ b) = nodeVals a ++ nodeVals b:=by unfold nodeVals;rw [List.flatMap_append]
structure PartV where
  name:List UInt8
  attrs:List AtL
  av:Value
  kids:List KidV
  kv:Value
  tail:List UInt8
  tv:Value
def PartV.toL (p:PartV):PartL:=⟨p.name,p.attrs,p.kids.map Prod.fst,p.tail⟩
def partVals (ps:List PartV):List Value:=ps.flatMap fun p=>[.string (str p.name),p.av,.string ⟨#[]⟩,p.kv,p.tv]
theorem partVals_length (ls:List PartV):(partVals ls).length = ls.length * 5:=by
 induction ls with
 | nil=>rfl
 | cons f r ih=>unfold partVals at *;rw [List.flatMap_cons,List.length_append,ih];simp;omega
theorem partVals_append (a b:List PartV):partVals (a ++ b) = partVals a ++ partVals b:=by unfold partVals;rw [List.flatMap_append]
theorem partVals_at (ps:List PartV) (p:PartV) (j:Nat) (hj:j < 5) (rest:List PartV):(partVals (ps ++ p :: rest))[ps.length * 5 + j]? = [Value.string (str p.name),p.av,.string ⟨#[]⟩,p.kv,p.tv][j]?:=by
 rw [partVals_append,List.getElem?_append_right (by rw [partVals_length];omega),partVals_length,show ps.length * 5 + j - ps.length * 5 = j by omega];unfold partVals;rw [List.flatMap_cons,List.getElem?_append_left (by simpa using hj)]
theorem partVals_set (ps:List PartV) (p:PartV) (j:Nat) (hj:j < 5) (u:Value):(partVals (ps ++ [p])).set (ps.length * 5 + j) u = partVals ps ++ [Value.string (str p.name),p.av,.string ⟨#[]⟩,p.kv,p.tv].set j u:=by
 rw [partVals_append,List.set_append_right _ _ (by rw [partVals_length];omega),partVals_length,show ps.length * 5 + j - ps.length * 5 = j by omega];rfl
structure KRow (C:Nat -> Prop) (B:Nat) (v:Value) (ks:List KidV) (w:World):Prop where
  row:w.ownsRow B 33 4 v ks.length (nodeVals ks)
  each:∀ q ∈ ks,AttrsC C w q.2.1 q.1.1.attrs /\ NodesC C w q.2.2 q.1.2
  out:∀ g,v.ownBlock = some g -> ¬ C g
def Since4 (W0 w:World):Prop:=∀ (g:Nat) (cur:Array Value) (T:TypeId) (fz:Nat × Nat),W0.heap[g]? = some (Obj.cells cur T fz) -> (T ≠ 47 /\ T ≠ 58 /\ T ≠ 33 /\ T ≠ 5) -> w.heap[g]? = W0.heap[g]?
theorem Since4.refl (w:World):Since4 w w:=fun _ _ _ _ _ _=>rfl
theorem Since4.trans {a b c:World} (h:Since4 a b) (k:Since4 b c):Since4 a c:=fun g cur T fz hg hT=>(k g cur T fz ((h g cur T fz hg hT).trans hg) hT).trans (h g cur T fz hg hT)
theorem Since4.grown {W0 w w':World} {row:Option Nat} (h:Since4 W0 w) (hg:w.grownBy w' row) (hr:∀ k,row = some k -> ∃ (cur:Array Value) (T:TypeId) (fz:Nat × Nat),w.heap[k]? = some (Obj.cells cur T fz) /\ (T = 47 \/ T = 58 \/ T = 33 \/ T = 5)):Since4 W0 w':=fun g cur T fz h0 hT=>by
 have h1:=h g cur T fz h0 hT;rw [hg.block g (lt_of_block (h1.trans h0)) (fun e=>?_)]
 ·exact h1
 ·obtain ⟨cur2,T2,fz2,h2,h3⟩:=hr g e.symm;rw [h1.trans h0] at h2;injection h2 with h2;injection h2 with _ h2;subst h2;rcases h3 with h3 | h3 | h3 | h3
  ·exact hT.1 h3
  ·exact hT.2.1 h3
  ·exact hT.2.2.1 h3
  ·exact hT.2.2.2 h3
theorem own_ty {w:World} {B:Nat} {e:TypeId} {sz n:Nat} {v:Value} {xs:List Value} (h:w.ownsRow B e sz v n xs) {k:Nat} (hk:v.ownBlock = some k):∃ (cur:Array Value) (T:TypeId) (fz:Nat × Nat),w.heap[k]? = some (Obj.cells cur T fz) /\ T = e:=by
 rcases h.2 with ⟨e0,_⟩ | ⟨g,cap,cur,e0,_,hh,_⟩
 ·rw [e0] at hk;cases hk
 ·rw [e0] at hk;obtain rfl:g = k:=by simpa [Value.ownBlock] using hk
  exact ⟨cur,_,_,hh,rfl⟩
theorem Since4.own {W0 w w':World} {B:Nat} {e:TypeId} {sz n:Nat} {v:Value} {xs:List Value} (h:Since4 W0 w) (ho:w.ownsRow B e sz v n xs) (hg:w.grownBy w' v.ownBlock) (he:e = 47 \/ e = 58 \/ e = 33 \/ e = 5):Since4 W0 w' :=
 h.grown hg (fun k hk=>by
  obtain ⟨cur,T,fz,h1,rfl⟩:=own_ty ho hk;exact ⟨cur,T,fz,h1,he⟩)
theorem Since4.put {W0 w:World} {b i:Nat} {u:Value} {cs:Array Value} {T:TypeId} {fz:Nat × Nat} (h:Since4 W0 w) (hb:w.heap[b]? = some (Obj.cells cs T fz)) (hT:T = 47 \/ T = 58 \/ T = 33 \/ T = 5):Since4 W0 (w.setCell ⟨b,i,none⟩ u) :=
 h.grown (row:=some b) ⟨rfl,rfl,rfl,by simp [World.setCell],fun k _ hk=>Below.heap_setCell _ _ _ k (fun e=>hk (by rw [e]))⟩ (fun k e=>by injection e with e;subst e;exact ⟨cs,T,fz,hb,hT⟩)
theorem Since4.below {W0 w w':World} (h:Since4 W0 w) (hb:Below w.heap.size w w'):Since4 W0 w':=h.grown (row:=none) ⟨hb.os,hb.tape,hb.output,hb.size,fun k hk _=>hb.block k hk⟩ (fun k e=>by cases e)
structure BS (C:Nat -> Prop) (B b:Nat) (r:Value) (st:List PartV) (n:Nat) (W0 w:World):Prop where
  blk:w.heap[b]? = some (.cells #[r,.int .i64 n] 47 (0,0))
  row:w.ownsRow B 58 5 r st.length (partVals st.reverse)
  attrs:∀ p ∈ st,AttrsC C w p.av p.attrs
  kids:∀ p ∈ st,KRow C B p.kv p.kids w
  apart:st.Pairwise (fun p q=>p.kv.ownBlock = none \/ p.kv.ownBlock ≠ q.kv.ownBlock)
  tails:∀ p ∈ st,w.ownsRow B 5 1 p.tv p.tail.length (cellsOf p.tail) /\ (p.tail = [] -> p.tv = .slice none 0 0)
  quiet:∀ p ∈ st.tail,p.tail = []
  typ:∀ g,C g -> g < w.heap.size /\ ∀ cur T fz,w.heap[g]? = some (.cells cur T fz) -> T = 33 \/ T = 43
  base:B <= b
  below:Below B W0 w
  size:B <= w.heap.size
  since:Since4 W0 w
theorem grown_none {w w':World} (hb:Below w.heap.size w w'):w.grownBy w' none:=⟨hb.os,hb.tape,hb.output,hb.size,fun k hk _=>hb.block k hk⟩
theorem own_type {w w':World} {B k:Nat} {e:TypeId} {sz n:Nat} {v:Value} {xs:List Value} (h:w.ownsRow B e sz v n xs) (hg:w.grownBy w' (some k)) (ht:∀ cur,w.heap[k]? ≠ some (.cells cur e (0,0))):w'.ownsRow B e sz v n xs :=
 h.kept hg (.inr (ownsRow_other h ht))
theorem KRow.turned {C:Nat -> Prop} {B:Nat} {v:Value} {ks:List KidV} {w w':World} {row:Option Nat} (h:KRow C B v ks w) (hg:w.grownBy w' row) (hC:∀ k,C k -> k < w.heap.size) (hr:∀ k,row = some k -> ¬ C k) (hne:v.ownBlock = none \/ v.ownBlock ≠ row):KRow C B v ks w':=by
 have hk:∀ b,C b -> w'.heap[b]? = w.heap[b]?:=fun b hb=>hg.block b (hC b hb) (fun e=>hr b e.symm hb)
 exact ⟨h.row.kept hg hne,fun q hq=>⟨(h.each q hq).1.mono hk (fun _ x=>x),(h.each q hq).2.mono hk (fun _ x=>x)⟩,h.out⟩
theorem BS.turned {C:Nat -> Prop} {B b:Nat} {r:Value} {st:List PartV} {n:Nat} {W0 w w':World} {row:Option Nat} (h:BS C B b r st n W0 w) (hs4:Since4 W0 w') (hg:w.grownBy w' row)
  (hr:∀ k,row = some k -> B <= k /\ k ≠ b /\ ¬ C k /\ ∀ cur,w.heap[k]? ≠ some (.cells cur 58 (0,0)) /\ w.heap[k]? ≠ some (.cells cur 33 (0,0)) /\ w.heap[k]? ≠ some (.cells cur 5 (0,0))):BS C B b r st n W0 w':=by
 have hC:∀ k,C k -> k < w.heap.size:=fun k hk=>(h.typ k hk).1
 have hk:∀ g,C g -> w'.heap[g]? = w.heap[g]?:=fun g hgC=>hg.block g (hC g hgC) (fun e=>(hr g e.symm).2.2.1 hgC)
 have hown:∀ {e:TypeId} {sz m:Nat} {v:Value} {xs:List Value},w.ownsRow B e sz v m xs -> (∀ k,row = some k -> ∀ cur,w.heap[k]? ≠ some (.cells cur e (0,0))) -> v.ownBlock = none \/ v.ownBlock ≠ row:=fun {e sz m v xs} ho ht=>by
  cases row with
  | none=>cases hv:v.ownBlock <;> simp
  | some k=>exact .inr (ownsRow_other ho (ht k rfl))
 refine ⟨?_,h.row.kept hg (hown h.row fun k e cur=>((hr k e).2.2.2 cur).1),fun p hp=>(h.attrs p hp).mono hk (fun _ x=>x),fun p hp=>(h.kids p hp).turned hg hC (fun k e=>(hr k e).2.2.1) (hown (h.kids p hp).row fun k e cur=>((hr k e).2.2.2 cur).2.1),h.apart,
  fun p hp=>⟨(h.tails p hp).1.kept hg (hown (h.tails p hp).1 fun k e cur=>((hr k e).2.2.2 cur).2.2),(h.tails p hp).2⟩,h.quiet,fun g hgC=>⟨Nat.lt_of_lt_of_le (hC g hgC) hg.size,by rw [hk g hgC];exact (h.typ g hgC).2⟩,h.base,h.below.grown hg h.size (fun k e=>(hr k e).1),Nat.le_trans h.size hg.size,hs4⟩
 rw [hg.block b (lt_of_block h.blk) (fun e=>(hr b e.symm).2.1 rfl)];exact h.blk
theorem BS.kept {C:Nat -> Prop} {B b:Nat} {r:Value} {st:List PartV} {n:Nat} {W0 w w':World} (h:BS C B b r st n W0 w) (hb:Below w.heap.size w w'):BS C B b r st n W0 w':=h.turned (h.since.below hb) (grown_none hb) (fun k e=>by cases e)
theorem BS.c0 {C:Nat -> Prop} {B b:Nat} {r:Value} {st:List PartV} {n:Nat} {W0 w:World} (h:BS C B b r st n W0 w):w.cell? ⟨b,0,none⟩ = some r:=by rw [Lib.cell_of_heap h.blk];rfl
theorem BS.c1 {C:Nat -> Prop} {B b:Nat} {r:Value} {st:List PartV} {n:Nat} {W0 w:World} (h:BS C B b r st n W0 w):w.cell? ⟨b,1,none⟩ = some (.int .i64 n):=by rw [Lib.cell_of_heap h.blk];rfl
theorem BS.free {C:Nat -> Prop} {B b:Nat} {r:Value} {st:List PartV} {n:Nat} {W0 w:World} (h:BS C B b r st n W0 w) (i:Nat):w.frozen? ⟨b,i,none⟩ = false:=Lib.frozen_of_heap h.blk i
theorem BS.form {C:Nat -> Prop} {B b:Nat} {r:Value} {st:List PartV} {n:Nat} {W0 w:World} (h:BS C B b r st n W0 w) (hs:st ≠ []):∃ g cap,r = .slice (some ⟨g,0,none⟩) st.length cap /\ st.length <= cap /\ cap <= maxLen /\ B <= g /\ g < w.heap.size:=by
 rcases h.row.2 with ⟨rfl,h0⟩ | ⟨g,cap,cur,rfl,hg,hh,hc,hm,_⟩
 ·exact absurd (List.eq_nil_of_length_eq_zero h0) hs
 ·exact ⟨g,cap,rfl,hc,hm,hg,lt_of_block hh⟩
theorem BS.cells {C:Nat -> Prop} {B b g cap:Nat} {p:PartV} {rest:List PartV} {n:Nat} {W0 w:World} (h:BS C B b (.slice (some ⟨g,0,none⟩) (rest.length + 1) cap) (p :: rest) n W0 w) :
  w.cell? ⟨g,rest.length * 5,none⟩ = some (.string (str p.name)) /\ w.cell? ⟨g,rest.length * 5 + 1,none⟩ = some p.av /\ w.cell? ⟨g,rest.length * 5 + 2,none⟩ = some (.string ⟨#[]⟩) /\ w.cell? ⟨g,rest.length * 5 + 3,none⟩ = some p.kv /\ w.cell? ⟨g,rest.length * 5 + 4,none⟩ = some p.tv /\ (∀ i,w.frozen? ⟨g,i,none⟩ = false):=by
 have hr:=h.row;rw [List.length_cons] at hr
 have hc:∀ j,j < 5 -> w.cell? ⟨g,rest.length * 5 + j,none⟩ = [Value.string (str p.name),p.av,.string ⟨#[]⟩,p.kv,p.tv][j]?:=fun j hj=>by
  rw [hr.cellAt _ (by omega)];have:=partVals_at rest.reverse p j hj [];rw [List.length_reverse] at this;rw [List.reverse_cons];exact this
 exact ⟨hc 0 (by decide),hc 1 (by decide),hc 2 (by decide),hc 3 (by decide),hc 4 (by decide),fun i=>hr.frozenAt i⟩
theorem BS.rowOut {C:Nat -> Prop} {B b g m cap:Nat} {st:List PartV} {n:Nat} {W0 w:World} (h:BS C B b (.slice (some ⟨g,0,none⟩) m cap) st n W0 w):g ≠ b /\ ¬ C g /\ B <= g /\ ∀ (cur:Array Value) (e:TypeId),e ≠ 58 -> w.heap[g]? ≠ some (.cells cur e (0,0)):=by
 rcases h.row.2 with ⟨h0,_⟩ | ⟨g',cap',cur,h0,hg,hh,hc,hm,_⟩
 ·cases h0
 ·injection h0 with h0 _ _;injection h0 with h0;injection h0 with h0;subst h0;refine ⟨fun e=>?_,fun hC=>?_,hg,fun cur' e he hx=>?_⟩
  ·have:=h.blk;rw [<- e,hh] at this;injection this with this;injection this with _ this;exact absurd this (by decide)
  ·rcases (h.typ g hC).2 _ _ _ hh with e | e
   ·exact absurd e (by decide)
   ·exact absurd e (by decide)
  ·rw [hh] at hx;injection hx with hx;injection hx with _ hx;exact he hx.symm
theorem BS.put {C:Nat -> Prop} {B b g cap:Nat} {p:PartV} {rest:List PartV} {n:Nat} {W0 w:World} (h:BS C B b (.slice (some ⟨g,0,none⟩) (rest.length + 1) cap) (p :: rest) n W0 w) (p':PartV) (j:Nat) (u:Value) (hj:j < 5)
  (he:[Value.string (str p.name),p.av,.string ⟨#[]⟩,p.kv,p.tv].set j u = [Value.string (str p'.name),p'.av,.string ⟨#[]⟩,p'.kv,p'.tv]) :
  (w.setCell ⟨g,rest.length * 5 + j,none⟩ u).ownsRow B 58 5 (.slice (some ⟨g,0,none⟩) (rest.length + 1) cap) (rest.length + 1) (partVals (p' :: rest).reverse) /\ w.grownBy (w.setCell ⟨g,rest.length * 5 + j,none⟩ u) (some g):=by
 have hr:=h.row;rw [List.length_cons] at hr;obtain ⟨r1,r2⟩:=hr.stored (rest.length * 5 + j) u;refine ⟨?_,r2⟩;rw [List.reverse_cons] at r1 ⊢;have e1:=partVals_set rest.reverse p j hj u;rw [List.length_reverse] at e1;rw [e1,he] at r1;rw [partVals_append];exact r1
theorem heap_put0 {w:World} {b i:Nat} {cs:Array Value} {T:TypeId} (h:w.heap[b]? = some (.cells cs T (0,0))) (u:Value):(w.setCell ⟨b,i,none⟩ u).heap[b]? = some (.cells (cs.setIfInBounds i u) T (0,0)):=heap_put u h
theorem grown_put (w:World) (b i:Nat) (u:Value):w.grownBy (w.setCell ⟨b,i,none⟩ u) (some b) :=
 ⟨rfl,rfl,rfl,by simp [World.setCell],fun k _ hk=>Below.heap_setCell _ _ _ k (fun e=>hk (by rw [e]))⟩
theorem same_put {w:World} {b i:Nat} {u:Value} {C:Nat -> Prop} (hC:¬ C b):∀ g,C g -> (w.setCell ⟨b,i,none⟩ u).heap[g]? = w.heap[g]?:=fun g hg=>Below.heap_setCell _ _ _ g (fun e=>hC (by rw [<- show g = b from e];exact hg))
theorem BS.out {C:Nat -> Prop} {B b:Nat} {r:Value} {st:List PartV} {n:Nat} {W0 w:World} (h:BS C B b r st n W0 w):¬ C b /\ ∀ (cur:Array Value) (e:TypeId),e ≠ 47 -> w.heap[b]? ≠ some (.cells cur e (0,0)):=by
 refine ⟨fun hC=>?_,fun cur e he hx=>?_⟩
 ·rcases (h.typ b hC).2 _ _ _ h.blk with e | e
  ·exact absurd e (by decide)
  ·exact absurd e (by decide)
 ·rw [h.blk] at hx;injection hx with hx;injection hx with _ hx;exact he hx.symm
theorem BS.putB {C:Nat -> Prop} {B b:Nat} {r:Value} {st:List PartV} {n:Nat} {W0 w:World} (h:BS C B b r st n W0 w) (i:Nat) (u r':Value) (n':Nat)
  (he:(#[r,.int .i64 n]:Array Value).setIfInBounds i u = #[r',.int .i64 n']) (hr:w.ownsRow B 58 5 r' st.length (partVals st.reverse)):BS C B b r' st n' W0 (w.setCell ⟨b,i,none⟩ u):=by
 have hg:=grown_put w b i u;have ho:=h.out;have hown:∀ {e:TypeId} {sz m:Nat} {v:Value} {xs:List Value},e ≠ 47 -> w.ownsRow B e sz v m xs -> (w.setCell ⟨b,i,none⟩ u).ownsRow B e sz v m xs:=fun {e sz m v xs} h1 hx=>own_type hx hg (fun cur=>ho.2 cur e h1)
 have hk:=same_put (w:=w) (i:=i) (u:=u) ho.1
 refine ⟨by rw [heap_put0 h.blk,he],hown (by decide) hr,fun p hp=>(h.attrs p hp).mono hk (fun _ x=>x),fun p hp=>⟨hown (by decide) (h.kids p hp).row,fun q hq=>⟨((h.kids p hp).each q hq).1.mono hk (fun _ x=>x),((h.kids p hp).each q hq).2.mono hk (fun _ x=>x)⟩,(h.kids p hp).out⟩,h.apart,
  fun p hp=>⟨hown (by decide) (h.tails p hp).1,(h.tails p hp).2⟩,h.quiet,fun g hgC=>⟨by have:=(h.typ g hgC).1;simpa [World.setCell] using this,by rw [hk g hgC];exact (h.typ g hgC).2⟩,h.base,h.below.setCell (p:=⟨b,i,none⟩) h.base u,by simpa [World.setCell] using h.size,h.since.put h.blk (.inl rfl)⟩
theorem BS.setCount {C:Nat -> Prop} {B b:Nat} {r:Value} {st:List PartV} {n:Nat} {W0 w:World} (h:BS C B b r st n W0 w) (m:Nat):BS C B b r st m W0 (w.setCell ⟨b,1,none⟩ (.int .i64 m)):=h.putB 1 _ r m rfl h.row
theorem BS.putP {C:Nat -> Prop} {B b g cap:Nat} {p:PartV} {rest:List PartV} {n:Nat} {W0 w:World} (h:BS C B b (.slice (some ⟨g,0,none⟩) (rest.length + 1) cap) (p :: rest) n W0 w) (p':PartV) (j:Nat) (u:Value) (hj:j < 5)
  (he:[Value.string (str p.name),p.av,.string ⟨#[]⟩,p.kv,p.tv].set j u = [Value.string (str p'.name),p'.av,.string ⟨#[]⟩,p'.kv,p'.tv]) (hv:p'.av = p.av) (ha:p'.attrs = p.attrs)
  (hk:KRow C B p'.kv p'.kids w) (hap:∀ q ∈ rest,p'.kv.ownBlock = none \/ p'.kv.ownBlock ≠ q.kv.ownBlock) (ht:w.ownsRow B 5 1 p'.tv p'.tail.length (cellsOf p'.tail) /\ (p'.tail = [] -> p'.tv = .slice none 0 0)) :
  BS C B b (.slice (some ⟨g,0,none⟩) (rest.length + 1) cap) (p' :: rest) n W0 (w.setCell ⟨g,rest.length * 5 + j,none⟩ u):=by
 obtain ⟨o1,hg⟩:=h.put p' j u hj he;obtain ⟨q1,q2,q3,q4⟩:=h.rowOut;have hown:∀ {e:TypeId} {sz m:Nat} {v:Value} {xs:List Value},e ≠ 58 -> w.ownsRow B e sz v m xs -> (w.setCell ⟨g,rest.length * 5 + j,none⟩ u).ownsRow B e sz v m xs:=fun {e sz m v xs} h1 hx=>own_type hx hg (fun cur=>q4 cur e h1)
 have hkp:=same_put (w:=w) (i:=rest.length * 5 + j) (u:=u) q2;have hK:∀ {v:Value} {ks:List KidV},KRow C B v ks w -> KRow C B v ks (w.setCell ⟨g,rest.length * 5 + j,none⟩ u):=fun {v ks} hx=>⟨hown (by decide) hx.row,fun q hq=>⟨(hx.each q hq).1.mono hkp (fun _ x=>x),(hx.each q hq).2.mono hkp (fun _ x=>x)⟩,hx.out⟩
 have hr:∀ q ∈ rest,q ∈ p :: rest:=fun q hq=>List.mem_cons_of_mem _ hq
 refine ⟨?_,o1,?_,?_,?_,?_,h.quiet,fun x hx=>⟨by have:=(h.typ x hx).1;simpa [World.setCell] using this,by rw [hkp x hx];exact (h.typ x hx).2⟩,h.base,h.below.setCell (p:=⟨g,rest.length * 5 + j,none⟩) q3 u,by simpa [World.setCell] using h.size,h.since.own h.row hg (.inr (.inl rfl))⟩
 ·rw [hg.block b (lt_of_block h.blk) (fun e=>q1 (Option.some.inj e).symm)];exact h.blk
 ·intro q hq;rcases List.mem_cons.1 hq with rfl | hq
  ·rw [hv,ha];exact (h.attrs p (List.mem_cons_self ..)).mono hkp (fun _ x=>x)
  ·exact (h.attrs q (hr q hq)).mono hkp (fun _ x=>x)
 ·intro q hq;rcases List.mem_cons.1 hq with rfl | hq
  ·exact hK hk
  ·exact hK (h.kids q (hr q hq))
 ·exact List.pairwise_cons.2 ⟨hap,(List.pairwise_cons.1 h.apart).2⟩
 ·intro q hq;rcases List.mem_cons.1 hq with rfl | hq
  ·exact ⟨hown (by decide) ht.1,ht.2⟩
  ·exact ⟨hown (by decide) (h.tails q (hr q hq)).1,(h.tails q (hr q hq)).2⟩
theorem BS.pushKid {C:Nat -> Prop} {B b g cap:Nat} {p:PartV} {rest:List PartV} {n:Nat} {W0 w w3:World} {v':Value} {q:KidV} (h:BS C B b (.slice (some ⟨g,0,none⟩) (rest.length + 1) cap) (p :: rest) n W0 w)
  (ho:w3.ownsRow B 33 4 v' (p.kids.length + 1) (nodeVals (p.kids ++ [q]))) (hg:w.grownBy w3 p.kv.ownBlock) (hv:v'.ownBlock = p.kv.ownBlock \/ v'.ownBlock = some w.heap.size)
  (hq:AttrsC C w q.2.1 q.1.1.attrs /\ NodesC C w q.2.2 q.1.2) :
  BS C B b (.slice (some ⟨g,0,none⟩) (rest.length + 1) cap) ({ p with kids:=p.kids ++ [q],kv:=v' } :: rest) n W0 (w3.setCell ⟨g,rest.length * 5 + 3,none⟩ v'):=by
 have hkp:=h.kids p (List.mem_cons_self ..);have hC:∀ k,C k -> k < w.heap.size:=fun k hk=>(h.typ k hk).1
 have hk:∀ x,C x -> w3.heap[x]? = w.heap[x]?:=fun x hx=>hg.block x (hC x hx) (fun e=>hkp.out x e.symm hx)
 have hown:∀ {e:TypeId} {sz m:Nat} {v:Value} {xs:List Value},e ≠ 33 -> w.ownsRow B e sz v m xs -> w3.ownsRow B e sz v m xs:=fun {e sz m v xs} h1 hx=>hx.kept hg (ownsRow_diff h1 hx hkp.row)
 have hb:∀ k (cur:Array Value) (e:TypeId),e ≠ 33 -> w.heap[k]? = some (Obj.cells cur e (0,0)) -> w3.heap[k]? = w.heap[k]?:=fun k cur e h1 hx=>hg.block k (lt_of_block hx) (fun e2=>by
  have:=ownsRow_other hkp.row (r:=k) (fun cur' h2=>by
   rw [hx] at h2;injection h2 with h2;injection h2 with _ h2;exact h1 h2)
  exact this e2.symm)
 have hcl:∀ x ∈ rest,p.kv.ownBlock = none \/ p.kv.ownBlock ≠ x.kv.ownBlock:=(List.pairwise_cons.1 h.apart).1
 have hne:∀ x ∈ rest,x.kv.ownBlock = none \/ x.kv.ownBlock ≠ p.kv.ownBlock:=fun x hx=>by
  rcases hcl x hx with e | e
  ·rw [e];cases x.kv.ownBlock with
   | none=>exact .inl rfl
   | some k=>exact .inr (by simp)
  ·exact .inr (fun e2=>e e2.symm)
 have hK:∀ x ∈ rest,KRow C B x.kv x.kids w3:=fun x hx=>(h.kids x (List.mem_cons_of_mem _ hx)).turned hg hC (fun k e hc=>hkp.out k e hc) (hne x hx)
 have hrow:=h.row;rw [List.length_cons] at hrow;have hrow3:=hown (by decide) hrow
 have hvals:partVals (p :: rest).reverse = partVals (({ p with kids:=p.kids ++ [q],kv:=p.kv }:PartV) :: rest).reverse:=by
  rw [List.reverse_cons,List.reverse_cons,partVals_append,partVals_append];rfl
 have hout3:g ≠ b /\ ¬ C g /\ B <= g /\ ∀ (cur:Array Value) (e:TypeId),e ≠ 58 -> w3.heap[g]? ≠ some (.cells cur e (0,0)):=by
  obtain ⟨q1,q2,q3,q4⟩:=h.rowOut;refine ⟨q1,q2,q3,fun cur e h1 hx=>?_⟩;rcases hrow3.2 with ⟨h0,_⟩ | ⟨g',cap',cur',h0,_,hh,_⟩
  ·cases h0
  ·injection h0 with h0 _ _;injection h0 with h0;injection h0 with h0;subst h0;rw [hh] at hx;injection hx with hx;injection hx with _ hx;exact h1 hx.symm
 obtain ⟨q1,q2,q3,q4⟩:=hout3;obtain ⟨r1,hgp⟩:=hrow3.stored (rest.length * 5 + 3) v';have hown4:∀ {e:TypeId} {sz m:Nat} {v:Value} {xs:List Value},e ≠ 58 -> w3.ownsRow B e sz v m xs -> (w3.setCell ⟨g,rest.length * 5 + 3,none⟩ v').ownsRow B e sz v m xs:=fun {e sz m v xs} h1 hx=>own_type hx hgp (fun cur=>q4 cur e h1)
 have hk4:=same_put (w:=w3) (i:=rest.length * 5 + 3) (u:=v') q2;have hk5:∀ x,C x -> (w3.setCell ⟨g,rest.length * 5 + 3,none⟩ v').heap[x]? = w.heap[x]?:=fun x hx=>(hk4 x hx).trans (hk x hx)
 have hC3:∀ k,C k -> k < w3.heap.size:=fun k hx=>Nat.lt_of_lt_of_le (hC k hx) hg.size
 have hrm:∀ x ∈ rest,x ∈ p :: rest:=fun x hx=>List.mem_cons_of_mem _ hx
 have hvo:∀ k,v'.ownBlock = some k -> ¬ C k:=fun k e hc=>by
  rcases hv with e1 | e1
  ·exact hkp.out k (e1.symm.trans e) hc
  ·rw [e1] at e;injection e with e;exact Nat.lt_irrefl _ (e ▸ hC k hc)
 refine ⟨?_,?_,?_,?_,?_,?_,h.quiet,fun x hx=>⟨by have:=hC3 x hx;simpa [World.setCell] using this,by rw [hk5 x hx];exact (h.typ x hx).2⟩,h.base,(h.below.grown hg h.size (fun k e=>(hkp.row.lt k e).1)).setCell (p:=⟨g,rest.length * 5 + 3,none⟩) q3 v',by have:=Nat.le_trans h.size hg.size;simpa [World.setCell] using this,(h.since.own hkp.row hg (.inr (.inr (.inl rfl)))).own hrow3 hgp (.inr (.inl rfl))⟩
 ·rw [hgp.block b (Nat.lt_of_lt_of_le (lt_of_block h.blk) hg.size) (fun e=>q1 (Option.some.inj e).symm),hb b _ 47 (by decide) h.blk];exact h.blk
 ·rw [hvals] at r1;rw [List.reverse_cons] at r1 ⊢;have e1:=partVals_set rest.reverse ({ p with kids:=p.kids ++ [q],kv:=p.kv }:PartV) 3 (by decide) v';rw [List.length_reverse] at e1;rw [e1] at r1;rw [partVals_append];exact r1
 ·intro x hx;rcases List.mem_cons.1 hx with rfl | hx
  ·exact (h.attrs p (List.mem_cons_self ..)).mono hk5 (fun _ x=>x)
  ·exact (h.attrs x (hrm x hx)).mono hk5 (fun _ x=>x)
 ·intro x hx;rcases List.mem_cons.1 hx with rfl | hx
  ·refine ⟨hown4 (by decide) (by rw [List.length_append];exact ho),fun y hy=>?_,hvo⟩;rcases List.mem_append.1 hy with hy | hy
   ·exact ⟨(hkp.each y hy).1.mono hk5 (fun _ x=>x),(hkp.each y hy).2.mono hk5 (fun _ x=>x)⟩
   ·obtain rfl:=List.mem_singleton.1 hy;exact ⟨hq.1.mono hk5 (fun _ x=>x),hq.2.mono hk5 (fun _ x=>x)⟩
  ·have:=hK x hx;exact ⟨hown4 (by decide) this.row,fun y hy=>⟨(this.each y hy).1.mono hk4 (fun _ x=>x),(this.each y hy).2.mono hk4 (fun _ x=>x)⟩,this.out⟩
 ·refine List.pairwise_cons.2 ⟨fun x hx=>?_,(List.pairwise_cons.1 h.apart).2⟩;show v'.ownBlock = none \/ v'.ownBlock ≠ x.kv.ownBlock
  rcases hv with e | e
  ·rw [e];exact hcl x hx
  ·rw [e];right;intro e2;exact Nat.lt_irrefl _ ((h.kids x (hrm x hx)).row.lt _ e2.symm).2
 ·intro x hx;rcases List.mem_cons.1 hx with rfl | hx
  ·have:=h.tails p (List.mem_cons_self ..);exact ⟨hown4 (by decide) (hown (by decide) this.1),this.2⟩
  ·have:=h.tails x (hrm x hx);exact ⟨hown4 (by decide) (hown (by decide) this.1),this.2⟩
theorem KRow.nodes {C C':Nat -> Prop} {B:Nat} {v:Value} {ks:List KidV} {w:World} (h:KRow C B v ks w) (hC:∀ b,C b -> C' b) (hv:∀ k,v.ownBlock = some k -> C' k):NodesC C' w v (Tr.of (ks.map Prod.fst)):=by
 rcases h.row.2 with ⟨rfl,h0⟩ | ⟨g,cap,cur,rfl,hg,hh,h1,h2,h3,h4⟩
 ·have:=List.eq_nil_of_length_eq_zero h0;subst this;exact .inl ⟨rfl,rfl⟩
 ·have hl:(Tr.of (ks.map Prod.fst)).len = ks.length:=by rw [Tr.len_of,List.length_map]
  refine .inr ⟨⟨g,0,none⟩,cap,by rw [hl],by rw [hl];exact h1,h2,?_⟩;have hcell:∀ j u,(nodeVals ks)[j]? = some u -> w.cell? ((⟨g,0,none⟩:Addr).add j) = some u:=h.row.cells (g:=g) rfl;have hCg:C' g:=hv g rfl
  have main:∀ (l pre:List KidV),ks = pre ++ l -> NodesAt C' w (Tr.of (l.map Prod.fst)) ((⟨g,0,none⟩:Addr).add (pre.length * 4)):=by
   intro l
   induction l with
   | nil=>intro pre _;exact trivial
   | cons q l ih =>
    intro pre hpre;obtain ⟨⟨hd,T⟩,va,vk⟩:=q
    have hat:∀ j,j < 4 -> (nodeVals ks)[pre.length * 4 + j]? = [Value.string (str hd.name),va,.string (str hd.text),vk][j]?:=fun j hj=>by
     rw [hpre,nodeVals_append,List.getElem?_append_right (by rw [nodeVals_length];omega),nodeVals_length,show pre.length * 4 + j - pre.length * 4 = j by omega];unfold nodeVals;rw [List.flatMap_cons,List.getElem?_append_left (by simpa using hj)]
    have hm:=h.each ((hd,T),(va,vk)) (by rw [hpre];exact List.mem_append.2 (.inr (List.mem_cons_self ..)));have c0:=hcell _ _ (hat 0 (by decide));have c1:=hcell _ _ (hat 1 (by decide));have c2:=hcell _ _ (hat 2 (by decide));have c3:=hcell _ _ (hat 3 (by decide));rw [<- Addr.add_add] at c1 c2 c3;refine ⟨by rw [addr_add_block];exact hCg,c0,c2,⟨va,c1,hm.1.mono (fun _ _=>rfl) hC⟩,⟨vk,c3,hm.2.mono (fun _ _=>rfl) hC⟩,?_⟩;have:=ih (pre ++ [((hd,T),(va,vk))]) (by rw [hpre];simp);rw [List.length_append,Nat.add_mul] at this;rw [Addr.add_add];exact this
  have:=main ks [] rfl;rw [List.length_nil,Nat.zero_mul,Addr.add_zero'] at this;exact this
theorem BS.shrink {C:Nat -> Prop} {B b g cap:Nat} {p q:PartV} {rest:List PartV} {n:Nat} {W0 w:World} (h:BS C B b (.slice (some ⟨g,0,none⟩) (rest.length + 1 + 1) cap) (p :: q :: rest) n W0 w) :
  ∃ C':Nat -> Prop,BS C' B b (.slice (some ⟨g,0,none⟩) (rest.length + 1) cap) (q :: rest) n W0 (w.setCell ⟨b,0,none⟩ (.slice (some ⟨g,0,none⟩) (rest.length + 1) cap)) /\
   AttrsC C' (w.setCell ⟨b,0,none⟩ (.slice (some ⟨g,0,none⟩) (rest.length + 1) cap)) p.av p.attrs /\ NodesC C' (w.setCell ⟨b,0,none⟩ (.slice (some ⟨g,0,none⟩) (rest.length + 1) cap)) p.kv (Tr.of (p.kids.map Prod.fst)):=by
 have hkp:=h.kids p (List.mem_cons_self ..);have hrm:∀ x ∈ q :: rest,x ∈ p :: q :: rest:=fun x hx=>List.mem_cons_of_mem _ hx
 have hrow:=h.row
 have hshort:w.ownsRow B 58 5 (.slice (some ⟨g,0,none⟩) (rest.length + 1) cap) (q :: rest).length (partVals (q :: rest).reverse):=by
  refine ⟨by rw [partVals_length,List.length_reverse],?_⟩;rcases hrow.2 with ⟨h0,_⟩ | ⟨g',cap',cur,h0,hg,hh,h1,h2,h3,h4⟩
  ·cases h0
  ·injection h0 with e1 e2 e3;injection e1 with e1;injection e1 with e1;subst e1 e3;refine .inr ⟨g,cap,cur,rfl,hg,hh,by simp only [List.length_cons] at h1 ⊢;omega,h2,h3,?_⟩;have e5:=congrArg (List.take ((q :: rest).length * 5)) h4;rw [List.take_take,Nat.min_eq_left (by simp only [List.length_cons];omega)] at e5;rw [e5,List.reverse_cons,partVals_append];have hl:(partVals (q :: rest).reverse).length = (q :: rest).length * 5:=by rw [partVals_length,List.length_reverse]
   rw [List.take_append_of_le_length (Nat.le_of_eq hl.symm),<- hl,List.take_length]
 obtain ⟨C',hC'⟩:∃ C':Nat -> Prop,C' = fun x=>C x \/ p.kv.ownBlock = some x:=⟨_,rfl⟩
 have hsub:∀ x,C x -> C' x:=fun x hx=>by rw [hC'];exact .inl hx
 have hv:∀ k,p.kv.ownBlock = some k -> C' k:=fun k e=>by rw [hC'];exact .inr e
 have hcl:=(List.pairwise_cons.1 h.apart).1
 have hbs:BS C' B b (.slice (some ⟨g,0,none⟩) (rest.length + 1) cap) (q :: rest) n W0 (w.setCell ⟨b,0,none⟩ (.slice (some ⟨g,0,none⟩) (rest.length + 1) cap)):=by
  have ho:=h.out
  have hnb:¬ C' b:=by
   rw [hC'];rintro (hx | hx)
   ·exact ho.1 hx
   ·exact absurd hx (fun e=>(ownsRow_other hkp.row (r:=b) (fun cur hb=>ho.2 cur _ (by decide) hb)) e)
  have hgp:=grown_put w b 0 (.slice (some ⟨g,0,none⟩) (rest.length + 1) cap);have hown:∀ {e:TypeId} {sz m:Nat} {v:Value} {xs:List Value},e ≠ 47 -> w.ownsRow B e sz v m xs -> (w.setCell ⟨b,0,none⟩ (.slice (some ⟨g,0,none⟩) (rest.length + 1) cap)).ownsRow B e sz v m xs:=fun {e sz m v xs} h1 hx=>own_type hx hgp (fun cur=>ho.2 cur e h1)
  have hk:=same_put (w:=w) (i:=0) (u:=.slice (some ⟨g,0,none⟩) (rest.length + 1) cap) hnb;have hk0:∀ x,C x -> (w.setCell ⟨b,0,none⟩ (.slice (some ⟨g,0,none⟩) (rest.length + 1) cap)).heap[x]? = w.heap[x]?:=fun x hx=>hk x (hsub x hx)
  refine ⟨by rw [heap_put0 h.blk];rfl,hown (by decide) hshort,fun x hx=>(h.attrs x (hrm x hx)).mono hk0 hsub,fun x hx=>?_,(List.pairwise_cons.1 h.apart).2,fun x hx=>⟨hown (by decide) (h.tails x (hrm x hx)).1,(h.tails x (hrm x hx)).2⟩,
   fun x hx=>h.quiet x (by simpa using List.mem_cons_of_mem _ hx),fun x hx=>?_,h.base,h.below.setCell (p:=⟨b,0,none⟩) h.base _,by simpa [World.setCell] using h.size,h.since.put h.blk (.inl rfl)⟩
  ·have hx2:=h.kids x (hrm x hx);refine ⟨hown (by decide) hx2.row,fun y hy=>⟨(hx2.each y hy).1.mono hk0 hsub,(hx2.each y hy).2.mono hk0 hsub⟩,fun k e=>?_⟩;rw [hC'];rintro (hc | hc)
   ·exact hx2.out k e hc
   ·rcases hcl x hx with e1 | e1
    ·rw [e1] at hc;cases hc
    ·exact e1 (hc.trans e.symm)
  ·rw [hk x hx];rw [hC'] at hx;rcases hx with hx | hx
   ·exact ⟨by have:=(h.typ x hx).1;simpa [World.setCell] using this,(h.typ x hx).2⟩
   ·refine ⟨by have:=(hkp.row.lt x hx).2;simpa [World.setCell] using this,fun cur T fz hh=>?_⟩;rcases hkp.row.2 with ⟨e0,_⟩ | ⟨g',cap',cur',e0,_,hh',_⟩
    ·rw [e0] at hx;cases hx
    ·rw [e0] at hx;obtain rfl:g' = x:=by simpa [Value.ownBlock] using hx
     rw [hh'] at hh;injection hh with hh;injection hh with _ hh;exact .inl hh.symm
 have hnb2:¬ C' b:=hbs.out.1;have hk2:=same_put (w:=w) (i:=0) (u:=.slice (some ⟨g,0,none⟩) (rest.length + 1) cap) hnb2;exact ⟨C',hbs,(h.attrs p (List.mem_cons_self ..)).mono (fun x hx=>hk2 x (hsub x hx)) hsub,(hkp.nodes hsub hv).mono hk2 (fun _ x=>x)⟩
theorem BS.pushPart {C:Nat -> Prop} {B b:Nat} {r r':Value} {st:List PartV} {n:Nat} {W0 w w2:World} (h:BS C B b r st n W0 w) (nm:List UInt8) (ats:List AtL) (av:Value) (ha:AttrsC C w av ats) (hq:∀ p ∈ st,p.tail = [])
  (ho:w2.ownsRow B 58 5 r' (st.length + 1) (partVals st.reverse ++ partVals [⟨nm,ats,av,[],.slice none 0 0,[],.slice none 0 0⟩])) (hg:w.grownBy w2 r.ownBlock) :
  BS C B b r' (⟨nm,ats,av,[],.slice none 0 0,[],.slice none 0 0⟩ :: st) n W0 (w2.setCell ⟨b,0,none⟩ r'):=by
 have hC:∀ k,C k -> k < w.heap.size:=fun k hk=>(h.typ k hk).1
 have hrC:∀ k,r.ownBlock = some k -> ¬ C k:=fun k e hc=>by
  rcases h.row.2 with ⟨e0,_⟩ | ⟨g,cap,cur,e0,_⟩
  ·rw [e0] at e;cases e
  ·subst e0;obtain rfl:g = k:=by simpa [Value.ownBlock] using e
   exact h.rowOut.2.1 hc
 have hk:∀ x,C x -> w2.heap[x]? = w.heap[x]?:=fun x hx=>hg.block x (hC x hx) (fun e=>hrC x e.symm hx)
 have hown:∀ {e:TypeId} {sz m:Nat} {v:Value} {xs:List Value},e ≠ 58 -> w.ownsRow B e sz v m xs -> w2.ownsRow B e sz v m xs:=fun {e sz m v xs} h1 hx=>hx.kept hg (ownsRow_diff h1 hx h.row)
 have hblk:w2.heap[b]? = some (.cells #[r,.int .i64 n] 47 (0,0)):=by
  rw [hg.block b (lt_of_block h.blk) (fun e=>(ownsRow_other h.row (r:=b) (fun cur hb=>h.out.2 cur _ (by decide) hb)) e.symm)];exact h.blk
 have hgp:=grown_put w2 b 0 r'
 have hnb:∀ (cur:Array Value) (e:TypeId),e ≠ 47 -> w2.heap[b]? ≠ some (Obj.cells cur e (0,0)):=fun cur e he hx=>by
  rw [hblk] at hx;injection hx with hx;injection hx with _ hx;exact he hx.symm
 have hown4:∀ {e:TypeId} {sz m:Nat} {v:Value} {xs:List Value},e ≠ 47 -> w2.ownsRow B e sz v m xs -> (w2.setCell ⟨b,0,none⟩ r').ownsRow B e sz v m xs:=fun {e sz m v xs} h1 hx=>own_type hx hgp (fun cur=>hnb cur e h1)
 have hk4:=same_put (w:=w2) (i:=0) (u:=r') h.out.1;have hk5:∀ x,C x -> (w2.setCell ⟨b,0,none⟩ r').heap[x]? = w.heap[x]?:=fun x hx=>(hk4 x hx).trans (hk x hx)
 refine ⟨by rw [heap_put0 hblk];rfl,?_,?_,?_,?_,?_,fun p hp=>hq p hp,fun x hx=>⟨by have:=Nat.lt_of_lt_of_le (hC x hx) hg.size;simpa [World.setCell] using this,by rw [hk5 x hx];exact (h.typ x hx).2⟩,h.base,(h.below.grown hg h.size (fun k e=>(h.row.lt k e).1)).setCell (p:=⟨b,0,none⟩) h.base r',by have:=Nat.le_trans h.size hg.size;simpa [World.setCell] using this,(h.since.own h.row hg (.inr (.inl rfl))).put hblk (.inl rfl)⟩
 ·refine hown4 (by decide) ?_;rw [List.length_cons,List.reverse_cons,partVals_append];exact ho
 ·intro x hx;rcases List.mem_cons.1 hx with rfl | hx
  ·exact ha.mono hk5 (fun _ x=>x)
  ·exact (h.attrs x hx).mono hk5 (fun _ x=>x)
 ·intro x hx;rcases List.mem_cons.1 hx with rfl | hx
  ·exact ⟨World.ownsRow_nil _ B _ 4,fun y hy=>(by cases hy),fun k e=>(by cases e)⟩
  ·have:=h.kids x hx;exact ⟨hown4 (by decide) (hown (by decide) this.row),fun y hy=>⟨(this.each y hy).1.mono hk5 (fun _ x=>x),(this.each y hy).2.mono hk5 (fun _ x=>x)⟩,this.out⟩
 ·exact List.pairwise_cons.2 ⟨fun x hx=>.inl rfl,h.apart⟩
 ·intro x hx;rcases List.mem_cons.1 hx with rfl | hx
  ·exact ⟨World.ownsRow_nil _ B _ 1,fun _=>rfl⟩
  ·exact ⟨hown4 (by decide) (hown (by decide) (h.tails x hx).1),(h.tails x hx).2⟩
theorem BS.wider {C C':Nat -> Prop} {B b:Nat} {r:Value} {st:List PartV} {n:Nat} {W0 w:World} (h:BS C B b r st n W0 w) (hs:∀ x,C x -> C' x) (ho:∀ p ∈ st,∀ g,p.kv.ownBlock = some g -> ¬ C' g)
  (ht:∀ g,C' g -> g < w.heap.size /\ ∀ cur T fz,w.heap[g]? = some (.cells cur T fz) -> T = 33 \/ T = 43):BS C' B b r st n W0 w :=
 ⟨h.blk,h.row,fun p hp=>(h.attrs p hp).mono (fun _ _=>rfl) hs,fun p hp=>⟨(h.kids p hp).row,fun q hq=>⟨((h.kids p hp).each q hq).1.mono (fun _ _=>rfl) hs,((h.kids p hp).each q hq).2.mono (fun _ _=>rfl) hs⟩,ho p hp⟩,h.apart,h.tails,h.quiet,ht,h.base,h.below,h.size,h.since⟩
theorem BS.from {C:Nat -> Prop} {B b:Nat} {r:Value} {st:List PartV} {n:Nat} {W0 w:World} (h:BS C B b r st n W0 w):BS C B b r st n w w :=
 ⟨h.blk,h.row,h.attrs,h.kids,h.apart,h.tails,h.quiet,h.typ,h.base,Below.refl _ _,h.size,Since4.refl _⟩
theorem inner14_any (C:Nat -> Prop) (B b:Nat) (r:Value) (st:List PartV) (n:Nat) (W0 w:World) (h:BS C B b r st n W0 w) (hs:st ≠ []) (hl:st.length <= 1048576) :
  Calls Tryz.prog 39 #[.pointer (some ⟨b,0,none⟩)] w fun e w'=>(∃ g cap,r = .slice (some ⟨g,0,none⟩) st.length cap /\ e = .returned (.pointer (some ⟨g,(st.length - 1) * 5,none⟩))) /\ ∃ m,w' = w.drewN m:=by
 obtain ⟨g,cap,rfl,h1,h2,h3,h4⟩:=h.form hs;have c0:=h.c0;obtain ⟨k,hk⟩:∃ k,st.length = k + 1:=⟨st.length - 1,by have:=List.length_pos_iff.2 hs;omega⟩
 rw [hk] at c0 hl ⊢;have tn1:wrap64 (((k + 1:Nat):Int) - 1) = (k:Int):=by unfold wrap64;omega
 have tn4:wrap64 ((k:Int) + 1 - 1) = (k:Int):=by unfold wrap64;omega
 have tn2:((k + 1:Nat):Int) - 1 = (k:Int):=by omega
 have tn5:(k:Int) < (k:Int) + 1:=by omega
 clear h hs hk h1 h2 h3 h4;go_enter Tryz.func39,Tryz.ntmps39;go_wp2_with fail;go_quiet (fail);go_wp2_with fail;go_ret;exact ⟨⟨g,cap,rfl,rfl⟩,nq,rfl⟩
theorem take_no (C:Nat -> Prop) (B b:Nat) (r:Value) (st:List PartV) (W0 w:World) (h:BS C B b r st 5000 W0 w) :
  Calls Tryz.prog 85 #[.pointer (some ⟨b,0,none⟩)] w fun e w'=>e = .returned (.bool false) /\ w = w':=by
 have c1:=h.c1;clear h;go_enter Tryz.func85,Tryz.ntmps85;go_wp2_with fail;go_ret;exact ⟨rfl,rfl⟩
theorem take_yes (C:Nat -> Prop) (B b:Nat) (r:Value) (st:List PartV) (n:Nat) (W0 w:World) (h:BS C B b r st n W0 w) (hn:n < 5000) :
  Calls Tryz.prog 85 #[.pointer (some ⟨b,0,none⟩)] w fun e w'=>e = .returned (.bool true) /\ BS C B b r st (n + 1) W0 w':=by
 have c1:=h.c1;have f1:=h.free 1;have t0:((n:Int) == 5000) = false:=beq_eq_false_iff_ne.2 (by omega);have HB:=hide (h.setCount (n + 1));clear h;go_enter Tryz.func85,Tryz.ntmps85;go_wp2_with fail;go_ret;exact ⟨rfl,HB.out⟩
def zeroKid:KidV:=((⟨[],[],[]⟩,.nil),(.slice none 0 0,.slice none 0 0))
theorem info_nd14:(Tryz.prog.info? 33).map (fun i=>(i.zero,i.size,i.bytes)) = some (some (.agg #[.string ByteArray.empty,.slice none 0 0,.string ByteArray.empty,.slice none 0 0]),4,80):=by kernel_rfl
theorem step_node0 {ops:Array Oper} {o:Oper} {a:Act} {w:World} {K:Act -> World -> Prop} {Q:Exit -> Act -> World -> Prop} {E:Prop} (hgd:o.guard = none) (s x:Operand)
  (ho:o.op = .call { callee:=.builtin .append,args:=#[s,x],argTypes:=#[23,23] })
  (B:Nat) (v:Value) (ks:List KidV) (hs:a.eval s = v) (hb:w.ownsRow B 33 4 v ks.length (nodeVals ks)) (hB:B <= w.heap.size) (ad:Addr)
  (hx:a.eval x = .slice (some ad) 1 1) (h0:w.cell? (ad.add 0) = some (.string ⟨#[]⟩)) (h1:w.cell? (ad.add 1) = some (.slice none 0 0)) (h2:w.cell? (ad.add 2) = some (.string ⟨#[]⟩)) (h3:w.cell? (ad.add 3) = some (.slice none 0 0))
  (hlen:ks.length + 1 <= 1073741824)
  (h:∀ g' cap' w',w'.ownsRow B 33 4 (.slice (some ⟨g',0,none⟩) (ks.length + 1) cap') (ks.length + 1) (nodeVals (ks ++ [zeroKid])) -> w.grownBy w' v.ownBlock -> (some g' = v.ownBlock \/ g' = w.heap.size) -> ks.length + 1 <= cap' -> cap' <= maxLen ->
   K (a.put o.dst (.slice (some ⟨g',0,none⟩) (ks.length + 1) cap')) w') :
  if Region.wanted o (yielded ops a.tmps) = true then Oper.wp Tryz.prog o a w K Q else E:=by
 have hw:Region.wanted o (yielded ops a.tmps) = true:=by simp [Region.wanted,hgd]
 rw [if_pos hw];obtain ⟨i0,hi,hz0,hz1,hz2⟩:=info_parts info_nd14;refine wp_append_own2 _ s x 23 ho B 33 i0 (.agg #[.string ByteArray.empty,.slice none 0 0,.string ByteArray.empty,.slice none 0 0]) 4 80 Tryz.underlying23 hi hz0 hz1 hz2 rfl (by decide) v ks.length (nodeVals ks) hs hb ad 1 1 (nodeVals [zeroKid]) hx rfl ?_ ?_ (by unfold maxLen;omega) (by omega) hB ?_
 ·intro j u hj
  match j,hj with
  | 0,hj=>simp [nodeVals,zeroKid] at hj;subst hj;exact h0
  | 1,hj=>simp [nodeVals,zeroKid] at hj;subst hj;exact h1
  | 2,hj=>simp [nodeVals,zeroKid] at hj;subst hj;exact h2
  | 3,hj=>simp [nodeVals,zeroKid] at hj;subst hj;exact h3
  | (j + 4),hj=>simp [nodeVals,zeroKid] at hj
 ·intro u hu;simp [nodeVals,zeroKid] at hu;rcases hu with rfl | rfl | rfl | rfl <;> rfl
 ·intro v' w' ho' hg hor;rcases ho'.2 with ⟨_,h0⟩ | ⟨g',cap',cur,rfl,_,hh,c1,c2,_⟩
  ·cases h0
  ·refine h g' cap' w' (by rw [nodeVals_append];exact ho') hg ?_ c1 c2;rcases hor with e | e
   ·exact .inl e
   ·exact .inr (by simpa [Value.ownBlock] using e)
theorem node_stored {w:World} {B g cap:Nat} {ks:List KidV} (h:w.ownsRow B 33 4 (.slice (some ⟨g,0,none⟩) (ks.length + 1) cap) (ks.length + 1) (nodeVals (ks ++ [zeroKid]))) (q:KidV) :
  (((((w.setCell ⟨g,ks.length * 4,none⟩ (.string (str q.1.1.name))).setCell ⟨g,ks.length * 4 + 1,none⟩ q.2.1).setCell ⟨g,ks.length * 4 + 2,none⟩ (.string (str q.1.1.text))).setCell ⟨g,ks.length * 4 + 3,none⟩ q.2.2)).ownsRow B 33 4 (.slice (some ⟨g,0,none⟩) (ks.length + 1) cap) (ks.length + 1) (nodeVals (ks ++ [q])) /\
  (∀ k,k ≠ g -> ((((w.setCell ⟨g,ks.length * 4,none⟩ (.string (str q.1.1.name))).setCell ⟨g,ks.length * 4 + 1,none⟩ q.2.1).setCell ⟨g,ks.length * 4 + 2,none⟩ (.string (str q.1.1.text))).setCell ⟨g,ks.length * 4 + 3,none⟩ q.2.2).heap[k]? = w.heap[k]?):=by
 obtain ⟨a1,b1⟩:=h.stored (ks.length * 4) (.string (str q.1.1.name));obtain ⟨a2,b2⟩:=a1.stored (ks.length * 4 + 1) q.2.1;obtain ⟨a3,b3⟩:=a2.stored (ks.length * 4 + 2) (.string (str q.1.1.text));obtain ⟨a4,b4⟩:=a3.stored (ks.length * 4 + 3) q.2.2;refine ⟨?_,fun k hk=>?_⟩
 ·have e:((((nodeVals (ks ++ [zeroKid])).set (ks.length * 4) (.string (str q.1.1.name))).set (ks.length * 4 + 1) q.2.1).set (ks.length * 4 + 2) (.string (str q.1.1.text))).set (ks.length * 4 + 3) q.2.2 = nodeVals (ks ++ [q]):=by
   have hs:∀ (j:Nat) (zs:List Value) (u:Value),(nodeVals ks ++ zs).set (ks.length * 4 + j) u = nodeVals ks ++ zs.set j u:=fun j zs u=>by
    rw [List.set_append_right _ _ (by rw [nodeVals_length];omega),nodeVals_length,show ks.length * 4 + j - ks.length * 4 = j by omega]
   have h0:=hs 0;rw [Nat.add_zero] at h0;rw [nodeVals_append,nodeVals_append,h0,hs,hs,hs];rfl
  rw [e] at a4;exact a4
 ·have hne:∀ (W:World) (i:Nat) (u:Value),(W.setCell ⟨g,i,none⟩ u).heap[k]? = W.heap[k]?:=fun W i u=>Below.heap_setCell W ⟨g,i,none⟩ u k hk
  rw [hne,hne,hne,hne]
theorem node_row (W:World) (c0 c1 c2 c3:Value):(W.alloc (.cells #[c0,c1,c2,c3] 33)).cell? ((⟨W.heap.size,0,none⟩:Addr).add 0) = some c0 /\ (W.alloc (.cells #[c0,c1,c2,c3] 33)).cell? ((⟨W.heap.size,0,none⟩:Addr).add 1) = some c1 /\ (W.alloc (.cells #[c0,c1,c2,c3] 33)).cell? ((⟨W.heap.size,0,none⟩:Addr).add 2) = some c2 /\ (W.alloc (.cells #[c0,c1,c2,c3] 33)).cell? ((⟨W.heap.size,0,none⟩:Addr).add 3) = some c3:=by
 have h:(W.alloc (.cells #[c0,c1,c2,c3] 33)).heap[W.heap.size]? = some (.cells #[c0,c1,c2,c3] 33 (0,0)):=by
  show (W.heap.push _)[W.heap.size]? = _
  exact Array.getElem?_push_size
 exact ⟨by rw [Addr.add_lit,Lib.cell_of_heap h];rfl,by rw [Addr.add_lit,Lib.cell_of_heap h];rfl,by rw [Addr.add_lit,Lib.cell_of_heap h];rfl,by rw [Addr.add_lit,Lib.cell_of_heap h];rfl⟩
theorem app_facts {C:Nat -> Prop} {B b g cap:Nat} {p:PartV} {rest:List PartV} {n:Nat} {W0 W:World} (h:BS C B b (.slice (some ⟨g,0,none⟩) (rest.length + 1) cap) (p :: rest) n W0 W) {g' cap':Nat} {w2:World}
  (ho:w2.ownsRow B 33 4 (.slice (some ⟨g',0,none⟩) (p.kids.length + 1) cap') (p.kids.length + 1) (nodeVals (p.kids ++ [zeroKid]))) (hg:W.grownBy w2 p.kv.ownBlock) (hor:some g' = p.kv.ownBlock \/ g' = W.heap.size) :
  g' ≠ g /\ (∀ i,w2.frozen? ⟨g',i,none⟩ = false) /\ (w2.cell? ⟨g',p.kids.length * 4,none⟩ = some (.string ⟨#[]⟩) /\ w2.cell? ⟨g',p.kids.length * 4 + 1,none⟩ = some (.slice none 0 0) /\ w2.cell? ⟨g',p.kids.length * 4 + 2,none⟩ = some (.string ⟨#[]⟩) /\ w2.cell? ⟨g',p.kids.length * 4 + 3,none⟩ = some (.slice none 0 0)) /\
  (∀ i,w2.frozen? ⟨g,i,none⟩ = false) /\ (∀ i,w2.cell? ⟨g,i,none⟩ = W.cell? ⟨g,i,none⟩):=by
 have hk:=(h.kids p (List.mem_cons_self ..)).row;obtain ⟨q1,q2,q3,q4⟩:=h.rowOut
 have hlt:g < W.heap.size:=by
  obtain ⟨g0,c0,e,_,_,_,hl⟩:=h.form (by simp);injection e with e _ _;injection e with e;injection e with e;rw [e];exact hl
 have hnk:p.kv.ownBlock ≠ some g:=ownsRow_other hk (fun cur=>q4 cur _ (by decide));have hgg:w2.heap[g]? = W.heap[g]?:=hg.block g hlt (fun e=>hnk e.symm)
 have hc:∀ j,j < 4 -> w2.cell? ⟨g',p.kids.length * 4 + j,none⟩ = [Value.string ⟨#[]⟩,.slice none 0 0,.string ⟨#[]⟩,.slice none 0 0][j]?:=fun j hj=>by
  rw [ho.cellAt _ (by omega),nodeVals_append,List.getElem?_append_right (by rw [nodeVals_length];omega),nodeVals_length,show p.kids.length * 4 + j - p.kids.length * 4 = j by omega];rfl
 refine ⟨fun e=>?_,fun i=>ho.frozenAt i,⟨hc 0 (by decide),hc 1 (by decide),hc 2 (by decide),hc 3 (by decide)⟩,fun i=>?_,fun i=>World.cell?_of_block hgg⟩
 ·rcases hor with e1 | e1
  ·exact hnk (by rw [<- e1,e])
  ·omega
 ·rw [World.frozen?_of_block (a:=⟨g,i,none⟩) hgg];exact h.cells.2.2.2.2.2 i
theorem BS.kidWritten {C:Nat -> Prop} {B b g cap:Nat} {p:PartV} {rest:List PartV} {n:Nat} {W0 W:World} (h:BS C B b (.slice (some ⟨g,0,none⟩) (rest.length + 1) cap) (p :: rest) n W0 W) {g' cap':Nat} {w2:World} {q:KidV}
  (ho:w2.ownsRow B 33 4 (.slice (some ⟨g',0,none⟩) (p.kids.length + 1) cap') (p.kids.length + 1) (nodeVals (p.kids ++ [zeroKid]))) (hg:W.grownBy w2 p.kv.ownBlock) (hor:some g' = p.kv.ownBlock \/ g' = W.heap.size)
  (hq:AttrsC C W q.2.1 q.1.1.attrs /\ NodesC C W q.2.2 q.1.2) :
  BS C B b (.slice (some ⟨g,0,none⟩) (rest.length + 1) cap) ({ p with kids:=p.kids ++ [q],kv:=.slice (some ⟨g',0,none⟩) (p.kids.length + 1) cap' } :: rest) n W0
   (((((w2.setCell ⟨g',p.kids.length * 4,none⟩ (.string (str q.1.1.name))).setCell ⟨g',p.kids.length * 4 + 1,none⟩ q.2.1).setCell ⟨g',p.kids.length * 4 + 2,none⟩ (.string (str q.1.1.text))).setCell ⟨g',p.kids.length * 4 + 3,none⟩ q.2.2).setCell ⟨g,rest.length * 5 + 3,none⟩ (.slice (some ⟨g',0,none⟩) (p.kids.length + 1) cap')):=by
 obtain ⟨s1,s2⟩:=node_stored ho q
 refine h.pushKid s1 ⟨hg.os,hg.tape,hg.output,by have:=hg.size;simpa [World.setCell] using this,fun k hk hne=>?_⟩ (by
  rcases hor with e | e
  ·exact .inl e
  ·exact .inr (by rw [<- e];rfl)) hq
 rw [s2 k ?_]
 ·exact hg.block k hk hne
 ·rintro rfl;rcases hor with e | e
  ·exact hne e
  ·omega
theorem setCell_comm (w:World) (a b:Addr) (u v:Value) (h:a.block ≠ b.block):(w.setCell a u).setCell b v = (w.setCell b v).setCell a u:=by
 unfold World.setCell
 congr 1
 apply Array.ext_getElem?;intro i;simp only [Array.getElem?_modify]
 by_cases h1:b.block = i
 ·have h2:¬ a.block = i:=fun e=>h (e.trans h1.symm)
  simp [h1,h2]
 ·simp [h1]
theorem kid_comm (w:World) {g g':Nat} (h:g ≠ g') (i j0 j1 j2 j3:Nat) (r v0 v1 v2 v3:Value) :
  (((((w.setCell ⟨g,i,none⟩ r).setCell ⟨g',j0,none⟩ v0).setCell ⟨g',j1,none⟩ v1).setCell ⟨g',j2,none⟩ v2).setCell ⟨g',j3,none⟩ v3) = (((((w.setCell ⟨g',j0,none⟩ v0).setCell ⟨g',j1,none⟩ v1).setCell ⟨g',j2,none⟩ v2).setCell ⟨g',j3,none⟩ v3).setCell ⟨g,i,none⟩ r):=by
 rw [setCell_comm w ⟨g,i,none⟩ ⟨g',j0,none⟩ r v0 h,setCell_comm _ ⟨g,i,none⟩ ⟨g',j1,none⟩ r v1 h,setCell_comm _ ⟨g,i,none⟩ ⟨g',j2,none⟩ r v2 h,setCell_comm _ ⟨g,i,none⟩ ⟨g',j3,none⟩ r v3 h]
theorem BS.noTail {C:Nat -> Prop} {B b g cap:Nat} {p:PartV} {rest:List PartV} {n:Nat} {W0 w:World} (h:BS C B b (.slice (some ⟨g,0,none⟩) (rest.length + 1) cap) (p :: rest) n W0 w) :
  BS C B b (.slice (some ⟨g,0,none⟩) (rest.length + 1) cap) ({ p with tail:=[],tv:=.slice none 0 0 } :: rest) n W0 (w.setCell ⟨g,rest.length * 5 + 4,none⟩ (.slice none 0 0)):=by
 have hk:=h.kids _ (List.mem_cons_self ..);exact h.putP { p with tail:=[],tv:=.slice none 0 0 } 4 (.slice none 0 0) (by decide) rfl rfl rfl hk ((List.pairwise_cons.1 h.apart).1) ⟨World.ownsRow_nil _ B _ 1,fun _=>rfl⟩
theorem BS.moreTail {C:Nat -> Prop} {B b g cap:Nat} {p:PartV} {rest:List PartV} {n:Nat} {W0 w w2:World} {tv':Value} {tl':List UInt8} (h:BS C B b (.slice (some ⟨g,0,none⟩) (rest.length + 1) cap) (p :: rest) n W0 w)
  (ho:w2.ownsRow B 5 1 tv' tl'.length (cellsOf tl')) (hg:w.grownBy w2 p.tv.ownBlock) (hn:tl' = [] -> tv' = .slice none 0 0) :
  BS C B b (.slice (some ⟨g,0,none⟩) (rest.length + 1) cap) ({ p with tail:=tl',tv:=tv' } :: rest) n W0 (w2.setCell ⟨g,rest.length * 5 + 4,none⟩ tv'):=by
 have ht:=h.tails p (List.mem_cons_self ..);have hrest:∀ q ∈ rest,q.tv = .slice none 0 0:=fun q hq=>(h.tails q (List.mem_cons_of_mem _ hq)).2 (h.quiet q hq)
 have hC:∀ k,C k -> k < w.heap.size:=fun k hk=>(h.typ k hk).1
 have htC:∀ k,p.tv.ownBlock = some k -> ¬ C k:=fun k e hc=>by
  rcases ht.1.2 with ⟨e0,_⟩ | ⟨g0,c0,cur,e0,_,hh,_⟩
  ·rw [e0] at e;cases e
  ·rw [e0] at e;obtain rfl:g0 = k:=by simpa [Value.ownBlock] using e
   rcases (h.typ g0 hc).2 _ _ _ hh with e | e
   ·exact absurd e (by decide)
   ·exact absurd e (by decide)
 have hk:∀ x,C x -> w2.heap[x]? = w.heap[x]?:=fun x hx=>hg.block x (hC x hx) (fun e=>htC x e.symm hx)
 have hown:∀ {e:TypeId} {sz m:Nat} {v:Value} {xs:List Value},e ≠ 5 -> w.ownsRow B e sz v m xs -> w2.ownsRow B e sz v m xs:=fun {e sz m v xs} h1 hx=>hx.kept hg (ownsRow_diff h1 hx ht.1)
 have hblk:w2.heap[b]? = some (.cells #[.slice (some ⟨g,0,none⟩) (rest.length + 1) cap,.int .i64 n] 47 (0,0)):=by
  rw [hg.block b (lt_of_block h.blk) (fun e=>(ownsRow_other ht.1 (r:=b) (fun cur hb=>h.out.2 cur _ (by decide) hb)) e.symm)];exact h.blk
 have hrow:=hown (by decide) h.row;have hK:∀ x ∈ p :: rest,KRow C B x.kv x.kids w2:=fun x hx=>⟨hown (by decide) (h.kids x hx).row,fun y hy=>⟨((h.kids x hx).each y hy).1.mono hk (fun _ x=>x),((h.kids x hx).each y hy).2.mono hk (fun _ x=>x)⟩,(h.kids x hx).out⟩
 obtain ⟨r1,hgp⟩:=(show w2.ownsRow B 58 5 (.slice (some ⟨g,0,none⟩) (rest.length + 1) cap) (rest.length + 1) (partVals (p :: rest).reverse) from hrow).stored (rest.length * 5 + 4) tv'
 have q4:∀ (cur:Array Value) (e:TypeId),e ≠ 58 -> w2.heap[g]? ≠ some (Obj.cells cur e (0,0)):=fun cur e h1 hx=>by
  rcases hrow.2 with ⟨h0,_⟩ | ⟨g',cap',cur',h0,_,hh,_⟩
  ·cases h0
  ·injection h0 with h0 _ _;injection h0 with h0;injection h0 with h0;subst h0;rw [hh] at hx;injection hx with hx;injection hx with _ hx;exact h1 hx.symm
 obtain ⟨q1,q2,q3,_⟩:=h.rowOut;have hown4:∀ {e:TypeId} {sz m:Nat} {v:Value} {xs:List Value},e ≠ 58 -> w2.ownsRow B e sz v m xs -> (w2.setCell ⟨g,rest.length * 5 + 4,none⟩ tv').ownsRow B e sz v m xs:=fun {e sz m v xs} h1 hx=>own_type hx hgp (fun cur=>q4 cur e h1)
 have hk4:=same_put (w:=w2) (i:=rest.length * 5 + 4) (u:=tv') q2;have hk5:∀ x,C x -> (w2.setCell ⟨g,rest.length * 5 + 4,none⟩ tv').heap[x]? = w.heap[x]?:=fun x hx=>(hk4 x hx).trans (hk x hx)
 have hrm:∀ x ∈ rest,x ∈ p :: rest:=fun x hx=>List.mem_cons_of_mem _ hx
 refine ⟨?_,?_,?_,?_,?_,?_,h.quiet,fun x hx=>⟨by have:=Nat.lt_of_lt_of_le (hC x hx) hg.size;simpa [World.setCell] using this,by rw [hk5 x hx];exact (h.typ x hx).2⟩,h.base,(h.below.grown hg h.size (fun k e=>(ht.1.lt k e).1)).setCell (p:=⟨g,rest.length * 5 + 4,none⟩) q3 tv',by have:=Nat.le_trans h.size hg.size;simpa [World.setCell] using this,(h.since.own ht.1 hg (.inr (.inr (.inr rfl)))).own hrow hgp (.inr (.inl rfl))⟩
 ·rw [hgp.block b (lt_of_block hblk) (fun e=>q1 (Option.some.inj e).symm)];exact hblk
 ·rw [List.reverse_cons] at r1 ⊢;have e1:=partVals_set rest.reverse p 4 (by decide) tv';rw [List.length_reverse] at e1;rw [e1] at r1;rw [partVals_append];exact r1
 ·intro x hx;rcases List.mem_cons.1 hx with rfl | hx
  ·exact (h.attrs p (List.mem_cons_self ..)).mono hk5 (fun _ x=>x)
  ·exact (h.attrs x (hrm x hx)).mono hk5 (fun _ x=>x)
 ·intro x hx;have hx2:∀ y:PartV,KRow C B y.kv y.kids w2 -> KRow C B y.kv y.kids (w2.setCell ⟨g,rest.length * 5 + 4,none⟩ tv'):=fun y hy=>⟨hown4 (by decide) hy.row,fun z hz=>⟨(hy.each z hz).1.mono hk4 (fun _ x=>x),(hy.each z hz).2.mono hk4 (fun _ x=>x)⟩,hy.out⟩
  rcases List.mem_cons.1 hx with rfl | hx
  ·exact hx2 p (hK p (List.mem_cons_self ..))
  ·exact hx2 x (hK x (hrm x hx))
 ·exact List.pairwise_cons.2 ⟨(List.pairwise_cons.1 h.apart).1,(List.pairwise_cons.1 h.apart).2⟩
 ·intro x hx;rcases List.mem_cons.1 hx with rfl | hx
  ·exact ⟨hown4 (by decide) ho,hn⟩
  ·rw [hrest x hx,h.quiet x hx];exact ⟨World.ownsRow_nil _ B _ 1,fun _=>rfl⟩
theorem endTextT_any (C : Nat → Prop) (B b g cap : Nat) (p : PartV) (rest : List PartV) (n : Nat) (W0 w : World) (h : BS C B b (.slice (some ⟨g, 0, none⟩) (rest.length + 1) cap) (p :: rest) n W0 w) (hl : rest.length ≤ 1048576) (hk : p.kids.length ≤ 1048576) (ht : p.tail.length ≤ 70368744177664) :
    Calls Tryz.prog 40 #[.pointer (some ⟨g, rest.length * 5, none⟩)] w fun e w' => e = .returned (.tuple #[]) ∧
      ∃ p', BS C B b (.slice (some ⟨g, 0, none⟩) (rest.length + 1) cap) (p' :: rest) n W0 w' ∧ p'.toL = endTextL p.toL := by
  obtain ⟨e0, e1, e2, e3, e4, ef⟩ := h.cells
  obtain ⟨tl1, tl2⟩ := h.tails p (List.mem_cons_self ..)
  by_cases hx : p.tail = []
  · have ht2 := tl2 hx
    rw [ht2] at e4
    have HR : Hid (BS C B b (.slice (some ⟨g, 0, none⟩) (rest.length + 1) cap) (p :: rest) n W0 w ∧ p.toL = endTextL p.toL) := hide ⟨h, by unfold endTextL; rw [if_pos (show p.toL.tail = [] from hx)]⟩
    clear h e0 e1 e2 e3 ef tl1 tl2 hx ht2 hk ht
    go_enter Tryz.func40, Tryz.ntmps40
    go_wp2_with fail
    go_end0
    exact ⟨rfl, p, HR.out⟩
  · obtain ⟨gt, ct, htv⟩ : ∃ gt ct, p.tv = .slice (some ⟨gt, 0, none⟩) p.tail.length ct := by
      rcases tl1.2 with ⟨_, h0⟩ | ⟨g', cap', cur, hv, _⟩
      · exact absurd (List.eq_nil_of_length_eq_zero h0) hx
      · exact ⟨g', cap', hv⟩
    rw [htv] at e4
    obtain ⟨N, hN⟩ : ∃ N, p.tail.length = N := ⟨_, rfl⟩
    have hN0 : 0 < N := by rw [← hN]; exact List.length_pos_iff.2 hx
    have g1 : decide ((0 : Int) < (N : Int)) = true := decide_eq_true (by omega)
    rw [hN] at e4
    obtain ⟨KA, KC, hkv⟩ : ∃ A c, p.kv = .slice A p.kids.length c := by
      rcases (h.kids p (List.mem_cons_self ..)).row.2 with ⟨hv, h0⟩ | ⟨g', cap', cur, hv, _⟩
      · exact ⟨none, 0, by rw [hv, h0]⟩
      · exact ⟨_, _, hv⟩
    rw [hkv] at e3
    obtain ⟨X, hX⟩ : ∃ X, str p.tail = X := ⟨_, rfl⟩
    have HX := hide hX
    have HXN := hide hx
    have HH := hide h
    have HK := hide hk
    have HTV := hide htv
    have HKV := hide hkv
    have HNN := hide hN
    have hcv : ∀ w', w'.ownsRow B 5 1 p.tv p.tail.length (cellsOf p.tail) → (convert 56 9 (.slice (some ⟨gt, 0, none⟩) N ct)).run Tryz.prog w' = .ok (.string X) w' := fun w' hw' => by
      have := Buf.convert (B := 0) (W0 := w') (w := w') (v := p.tv) (l := p.tail) ⟨ownsRow_down hw' (Nat.zero_le _), Below.refl _ _, Nat.zero_le _⟩
      rw [htv, hN, hX] at this
      exact this
    have HCV := hide hcv
    have cv0 := hcv w tl1
    clear h hx hk htv hkv hX tl1 tl2 ht hN hcv
    have HOWN : Hid (∀ W, Below w.heap.size w W → W.ownsRow B 33 4 (.slice KA p.kids.length KC) p.kids.length (nodeVals p.kids)) := hide fun W hW => by
      have := ((HH.out.kept hW).kids p (List.mem_cons_self ..)).row
      rw [HKV.out] at this; exact this
    have e3a : ∀ ob, (w.alloc ob).cell? ⟨g, rest.length * 5 + 3, none⟩ = some (.slice KA p.kids.length KC) := fun ob => ((below_one w ob).cell (World.block_lt_of_cell? _ _ e3)).trans e3
    have e4a : ∀ ob, (w.alloc ob).cell? ⟨g, rest.length * 5 + 4, none⟩ = some (.slice (some ⟨gt, 0, none⟩) N ct) := fun ob => ((below_one w ob).cell (World.block_lt_of_cell? _ _ e4)).trans e4
    have cv0d := HCV.out w.drew (((HH.out.kept (Below.refl _ _).drew).tails p (List.mem_cons_self ..)).1)
    have cv1 : ∀ ob, (convert 56 9 (.slice (some ⟨gt, 0, none⟩) N ct)).run Tryz.prog (w.alloc ob) = .ok (.string X) (w.alloc ob) := fun ob => HCV.out _ (((HH.out.kept (below_one w ob)).tails p (List.mem_cons_self ..)).1)
    have cv1d : ∀ ob, (convert 56 9 (.slice (some ⟨gt, 0, none⟩) N ct)).run Tryz.prog (w.alloc ob).drew = .ok (.string X) (w.alloc ob).drew := fun ob => HCV.out _ (((HH.out.kept ((below_one w ob).drew)).tails p (List.mem_cons_self ..)).1)
    have tn5 : ((p.kids.length : Nat) : Int) < (p.kids.length : Int) + 1 := by omega
    go_enter Tryz.func40, Tryz.ntmps40
    go_wp2_with fail
    all_goals first | exact absurd hN0 ‹_› | skip
    go_region_law (first
      | (refine step_node0 rfl _ _ rfl B (.slice KA p.kids.length KC) p.kids rfl (HOWN.out _ ?_) ?_ ⟨w.heap.size, 0, none⟩ rfl (node_row _ _ _ _ _).1 (node_row _ _ _ _ _).2.1 (node_row _ _ _ _ _).2.2.1 (node_row _ _ _ _ _).2.2.2 (by have := HK.out; omega) ?_
         · exact ((Below.refl _ _).alloc (Nat.le_refl _) _).drew
         · exact Nat.le_trans HH.out.size (((Below.refl w.heap.size w).alloc (Nat.le_refl _) _).drew).size
         intro g' cap' w2 ho2 hg2 hor2 hc2 hm2
         have HB1 := hide (HH.out.kept (((Below.refl w.heap.size w).alloc (Nat.le_refl _) (.cells #[.string ⟨#[]⟩, .slice none 0 0, .string ⟨#[]⟩, .slice none 0 0] 33)).drew))
         have hg3 := hg2
         rw [← HKV.out] at hg3 hor2
         obtain ⟨n1, n2, ⟨n3, n4, n5, n6⟩, n7, n8⟩ := app_facts HB1.out ho2 hg3 hor2
         have n9 : w2.cell? ⟨g, rest.length * 5 + 3, none⟩ = some (.slice KA p.kids.length KC) := (n8 _).trans (e3a _)
         have n10 : w2.cell? ⟨g, rest.length * 5 + 4, none⟩ = some (.slice (some ⟨gt, 0, none⟩) N ct) := (n8 _).trans (e4a _)
         have n11 : ¬ (g = g') := fun e => n1 e.symm
         have HO2 := hide ho2
         have HG2 := hide hg3
         have HOR := hide hor2
         clear ho2 hg2 hg3 hor2 hc2 hm2 n8))
    all_goals
      first | rw [kid_comm w2 n11] | skip
      have hb2 := HB1.out.kidWritten (q := (textNd p.tail, (.slice none 0 0, .slice none 0 0))) HO2.out HG2.out HOR.out ⟨⟨.inl ⟨rfl, rfl⟩, fun a n c e => (by cases e)⟩, .inl ⟨rfl, rfl⟩⟩
      rw [show (textNd p.tail).1.text = p.tail from rfl, HX.out] at hb2
      have hb3 := hb2.noTail
      have HB3 := hide hb3
      clear hb2 hb3
      go_wp2_with fail
      go_end0
      refine ⟨rfl, _, HB3.out, ?_⟩
      unfold endTextL
      rw [if_neg (show ¬ p.toL.tail = [] from HXN.out)]
      unfold PartV.toL
      simp
theorem inner_at (C:Nat -> Prop) (B b g cap:Nat) (p:PartV) (rest:List PartV) (n:Nat) (W0 w:World) (h:BS C B b (.slice (some ⟨g,0,none⟩) (rest.length + 1) cap) (p :: rest) n W0 w) (hl:rest.length <= 1000000) :
  Calls Tryz.prog 39 #[.pointer (some ⟨b,0,none⟩)] w fun e w'=>e = .returned (.pointer (some ⟨g,rest.length * 5,none⟩)) /\ BS C B b (.slice (some ⟨g,0,none⟩) (rest.length + 1) cap) (p :: rest) n W0 w':=by
 refine (inner14_any C B b _ (p :: rest) n W0 w h (by simp) (by simp only [List.length_cons];omega)).mono ?_;rintro e w' ⟨⟨g2,c2,he,rfl⟩,m,rfl⟩;injection he with he _ _;injection he with he;injection he with he;subst he;exact ⟨rfl,h.kept ⟨rfl,rfl,rfl,Nat.le_refl _,fun _ _=>rfl⟩⟩
theorem inner_at2 (C:Nat -> Prop) (B b g cap:Nat) (p:PartV) (rest:List PartV) (n:Nat) (W0 w:World) (h:BS C B b (.slice (some ⟨g,0,none⟩) (rest.length + 1) cap) (p :: rest) n W0 w) (hl:rest.length <= 1000000) :
  Calls Tryz.prog 39 #[.pointer (some ⟨b,0,none⟩)] w fun e w'=>e = .returned (.pointer (some ⟨g,rest.length * 5,none⟩)) /\ BS C B b (.slice (some ⟨g,0,none⟩) (rest.length + 1) cap) (p :: rest) n W0 w' /\ ∃ m,w' = w.drewN m:=by
 refine (inner14_any C B b _ (p :: rest) n W0 w h (by simp) (by simp only [List.length_cons];omega)).mono ?_;rintro e w' ⟨⟨g2,c2,he,rfl⟩,m,rfl⟩;injection he with he _ _;injection he with he;injection he with he;subst he;exact ⟨rfl,h.kept ⟨rfl,rfl,rfl,Nat.le_refl _,fun _ _=>rfl⟩,m,rfl⟩
def toLs (st:List PartV):List PartL:=st.map PartV.toL
def Left (B b:Nat) (s:BsL) (W0 w:World):Prop:=∃ C r st,BS C B b r st s.2 W0 w /\ toLs st = s.1
theorem charsTail_any (C : Nat → Prop) (B b g cap : Nat) (p : PartV) (rest : List PartV) (n : Nat) (W0 w : World) (h : BS C B b (.slice (some ⟨g, 0, none⟩) (rest.length + 1) cap) (p :: rest) n W0 w) (hl : rest.length ≤ 1000000) (x : ByteArray) (hx : x.data.toList ≠ []) (hz : p.tail.length + x.size ≤ 140737488355328) (ht : p.tail ≠ []) :
    Calls Tryz.prog 34 #[.pointer (some ⟨b, 0, none⟩), .string x] w fun e w' => e = .returned (.tuple #[]) ∧ ∃ p', BS C B b (.slice (some ⟨g, 0, none⟩) (rest.length + 1) cap) (p' :: rest) n W0 w' ∧ p'.toL = { p.toL with tail := p.tail ++ x.data.toList } := by
  obtain ⟨i0, hi, hz0, hz1, hz2⟩ := info_parts info_u8
  obtain ⟨gt, ct, htv⟩ : ∃ gt ct, p.tv = .slice (some ⟨gt, 0, none⟩) p.tail.length ct := by
    rcases (h.tails p (List.mem_cons_self ..)).1.2 with ⟨_, h0⟩ | ⟨g', cap', cur, hv, _⟩
    · exact absurd (List.eq_nil_of_length_eq_zero h0) ht
    · exact ⟨g', cap', hv⟩
  have hlt : 0 < p.tail.length := List.length_pos_iff.2 ht
  have t0 : ((p.tail.length : Int) == 0) = false := beq_eq_false_iff_ne.2 (by omega)
  have HH := hide h
  have HI := hide (inner_at C B b g cap p rest n W0 w h hl)
  have HTV := hide htv
  have HX := hide hx
  have HI1 := hide hi
  have HZ0 := hide hz0
  have HZ1 := hide hz1
  have HZ2 := hide hz2
  clear h htv hx hi hz0 hz1 hz2 ht
  go_enter Tryz.func34, Tryz.ntmps34
  go_wp2_with fail
  refine HI.out.mono ?_
  rintro e w1 ⟨rfl, hb⟩
  obtain ⟨e0, e1, e2, e3, e4, ef⟩ := hb.cells
  rw [HTV.out] at e4
  have HB := hide hb
  clear hb e0 e1 e2 e3
  go_wp2_with (refine Lib.wpList_append_own_string _ rfl _ _ 56 9 rfl B 5 i0 Tryz.underlying56 Tryz.underlying9 HI1.out HZ0.out HZ1.out HZ2.out (.slice (some ⟨gt, 0, none⟩) p.tail.length ct) p.tail.length (cellsOf p.tail) rfl (by have := (HB.out.tails p (List.mem_cons_self ..)).1; rw [HTV.out] at this; exact this) x rfl (by unfold maxLen; omega) (by omega) HB.out.size ?_
               intro v' w2 hown' hgrow _
               obtain ⟨ao, n', c', rfl⟩ : ∃ ao n' c', v' = .slice ao n' c' := by
                 rcases hown'.2 with ⟨hv, _⟩ | ⟨g0, c0, cur, hv, _⟩
                 · exact ⟨_, _, _, hv⟩
                 · exact ⟨_, _, _, hv⟩
               have hgt := hgrow
               rw [← HTV.out] at hgt
               have hlg : g < w1.heap.size := World.block_lt_of_cell? _ _ e4
               have hne : (Value.slice (some ⟨gt, 0, none⟩) p.tail.length ct).ownBlock ≠ some g := by
                 have := ownsRow_other (HB.out.tails p (List.mem_cons_self ..)).1 (r := g) (fun cur => HB.out.rowOut.2.2.2 cur _ (by decide))
                 rw [HTV.out] at this; exact this
               have hgg : w2.heap[g]? = w1.heap[g]? := hgrow.block g hlg (fun e => hne e.symm)
               have d4 : w2.cell? ⟨g, rest.length * 5 + 4, none⟩ = some (.slice (some ⟨gt, 0, none⟩) p.tail.length ct) := (World.cell?_of_block hgg).trans e4
               have f4 : w2.frozen? ⟨g, rest.length * 5 + 4, none⟩ = false := (World.frozen?_of_block hgg).trans (ef _)
               have HO2 : Hid (w2.ownsRow B 5 1 (.slice ao n' c') (p.tail ++ x.data.toList).length (cellsOf (p.tail ++ x.data.toList))) := hide (by
                 rw [List.length_append, toList_length, cellsOf, List.map_append]
                 exact hown')
               have HG2 := hide hgt
               clear hown' hgrow hgt hlg hne hgg)
  go_end0
  have := HB.out.moreTail HO2.out HG2.out (fun e => absurd (List.append_eq_nil_iff.1 e).2 HX.out)
  exact ⟨rfl, _, this, rfl⟩
theorem charsNew_any (C : Nat → Prop) (B b g cap : Nat) (p : PartV) (rest : List PartV) (n : Nat) (W0 w : World) (h : BS C B b (.slice (some ⟨g, 0, none⟩) (rest.length + 1) cap) (p :: rest) n W0 w) (hl : rest.length ≤ 1000000) (x : ByteArray) (hx : x.data.toList ≠ []) (hz : x.size ≤ 140737488355328) (ht : p.tail = []) (hn : n < 5000) :
    Calls Tryz.prog 34 #[.pointer (some ⟨b, 0, none⟩), .string x] w fun e w' => e = .returned (.tuple #[]) ∧ ∃ p', BS C B b (.slice (some ⟨g, 0, none⟩) (rest.length + 1) cap) (p' :: rest) (n + 1) W0 w' ∧ p'.toL = { p.toL with tail := x.data.toList } := by
  obtain ⟨i0, hi, hz0, hz1, hz2⟩ := info_parts info_u8
  obtain ⟨A, N, ct, htv, hN⟩ : ∃ A N ct, p.tv = .slice A N ct ∧ N = 0 := ⟨_, _, _, (h.tails p (List.mem_cons_self ..)).2 ht, rfl⟩
  have t0 : ((N : Int) == 0) = true := by rw [beq_iff_eq]; omega
  have HT0 : Hid (∀ W, Below w.heap.size w W → True) := hide fun _ _ => trivial
  have HTL := hide ht
  have HN0 := hide hN
  have HH := hide h
  have HI := hide (inner_at C B b g cap p rest n W0 w h hl)
  have HTV := hide htv
  have HX := hide hx
  have HN := hide hn
  have HI1 := hide hi
  have HZ0 := hide hz0
  have HZ1 := hide hz1
  have HZ2 := hide hz2
  clear h htv hx hi hz0 hz1 hz2 ht hn hN HT0
  go_enter Tryz.func34, Tryz.ntmps34
  go_wp2_with fail
  refine HI.out.mono ?_
  rintro e w0 ⟨rfl, hb0⟩
  obtain ⟨e0, e1, e2, e3, e4, ef⟩ := hb0.cells
  rw [HTV.out] at e4
  have HT := hide (take_yes C B b _ (p :: rest) n W0 w0 hb0 HN.out)
  clear hb0 e0 e1 e2 e3 ef
  go_wp2_with fail
  refine HT.out.mono ?_
  rintro e w1 ⟨rfl, hb⟩
  clear e4
  obtain ⟨e0, e1, e2, e3, e4, ef⟩ := hb.cells
  rw [HTV.out] at e4
  have HB := hide hb
  clear hb e0 e1 e2 e3
  go_wp2_with (refine Lib.wpList_append_own_string _ rfl _ _ 56 9 rfl B 5 i0 Tryz.underlying56 Tryz.underlying9 HI1.out HZ0.out HZ1.out HZ2.out (.slice A N ct) 0 [] rfl (by have := (HB.out.tails p (List.mem_cons_self ..)).1; rw [HTV.out, HTL.out] at this; exact this) x rfl (by unfold maxLen; omega) (by omega) HB.out.size ?_
               intro v' w2 hown' hgrow _
               obtain ⟨ao, n', c', rfl⟩ : ∃ ao n' c', v' = .slice ao n' c' := by
                 rcases hown'.2 with ⟨hv, _⟩ | ⟨g0, c0, cur, hv, _⟩
                 · exact ⟨_, _, _, hv⟩
                 · exact ⟨_, _, _, hv⟩
               have hgt := hgrow
               rw [← HTV.out] at hgt
               have hlg : g < w1.heap.size := World.block_lt_of_cell? _ _ e4
               have hne : (Value.slice A N ct).ownBlock ≠ some g := by
                 have := ownsRow_other (HB.out.tails p (List.mem_cons_self ..)).1 (r := g) (fun cur => HB.out.rowOut.2.2.2 cur _ (by decide))
                 rw [HTV.out] at this; exact this
               have hgg : w2.heap[g]? = w1.heap[g]? := hgrow.block g hlg (fun e => hne e.symm)
               have d4 : w2.cell? ⟨g, rest.length * 5 + 4, none⟩ = some (.slice A N ct) := (World.cell?_of_block hgg).trans e4
               have f4 : w2.frozen? ⟨g, rest.length * 5 + 4, none⟩ = false := (World.frozen?_of_block hgg).trans (ef _)
               have HO2 : Hid (w2.ownsRow B 5 1 (.slice ao n' c') x.data.toList.length (cellsOf x.data.toList)) := hide (by
                 have h9 := hown'
                 rw [Nat.zero_add, List.nil_append] at h9
                 rw [toList_length]
                 exact h9)
               have HG2 := hide hgt
               clear hown' hgrow hgt hlg hgg hne)
  go_end0
  have := HB.out.moreTail HO2.out HG2.out (fun e => absurd e HX.out)
  exact ⟨rfl, _, this, rfl⟩
theorem charsFull_any (C:Nat -> Prop) (B b g cap:Nat) (p:PartV) (rest:List PartV) (W0 w:World) (h:BS C B b (.slice (some ⟨g,0,none⟩) (rest.length + 1) cap) (p :: rest) 5000 W0 w) (hl:rest.length <= 1000000) (x:ByteArray) (ht:p.tail = []) :
  Calls Tryz.prog 34 #[.pointer (some ⟨b,0,none⟩),.string x] w fun e w'=>e = .returned (.tuple #[]) /\ BS C B b (.slice (some ⟨g,0,none⟩) (rest.length + 1) cap) (p :: rest) 5000 W0 w':=by
 have htv:=(h.tails p (List.mem_cons_self ..)).2 ht;have HI:=hide (inner_at C B b g cap p rest 5000 W0 w h hl);have HTV:=hide htv;clear h htv ht;go_enter Tryz.func34,Tryz.ntmps34;go_wp2_with fail;refine HI.out.mono ?_;rintro e w0 ⟨rfl,hb0⟩;obtain ⟨e0,e1,e2,e3,e4,ef⟩:=hb0.cells;rw [HTV.out] at e4;have HT:=hide (take_no C B b _ (p :: rest) W0 w0 hb0);have HB:=hide hb0;clear hb0 e0 e1 e2 e3 ef;go_wp2_with fail;refine HT.out.mono ?_;rintro e w1 ⟨rfl,rfl⟩;go_wp2_with fail
 try simp only [Exit.inBlock,Exit.then]
 refine bodyPost_ret (results_none rfl _ _ _) rfl ?_;exact ⟨rfl,HB.out⟩
theorem chars_any (C:Nat -> Prop) (B b g cap:Nat) (p:PartV) (rest:List PartV) (n:Nat) (W0 w:World) (h:BS C B b (.slice (some ⟨g,0,none⟩) (rest.length + 1) cap) (p :: rest) n W0 w) (hl:rest.length <= 1000000) (hn:n <= 5000) (x:ByteArray) (hx:x.data.toList ≠ []) (hz:p.tail.length + x.size <= 140737488355328) :
  Calls Tryz.prog 34 #[.pointer (some ⟨b,0,none⟩),.string x] w fun e w'=>e = .returned (.tuple #[]) /\ Left B b (charsP x.data.toList (toLs (p :: rest),n)) W0 w':=by
 have hc:charsP x.data.toList (toLs (p :: rest),n) = if p.tail = [] then (if n = 5000 then (toLs (p :: rest),n) else ({ p.toL with tail:=x.data.toList } :: toLs rest,n + 1)) else ({ p.toL with tail:=p.tail ++ x.data.toList } :: toLs rest,n):=rfl
 rw [hc]
 by_cases ht:p.tail = []
 ·rw [if_pos ht]
  by_cases h5:n = 5000
  ·subst h5;rw [if_pos rfl];refine (charsFull_any C B b g cap p rest W0 w h hl x ht).mono ?_;rintro e w' ⟨rfl,hb⟩;exact ⟨rfl,C,_,_,hb,rfl⟩
  ·rw [if_neg h5];refine (charsNew_any C B b g cap p rest n W0 w h hl x hx (by omega) ht (by omega)).mono ?_;rintro e w' ⟨rfl,p',hb,he⟩;exact ⟨rfl,C,_,_,hb,by show p'.toL :: toLs rest = _;rw [he]⟩
 ·rw [if_neg ht];refine (charsTail_any C B b g cap p rest n W0 w h hl x hx hz ht).mono ?_;rintro e w' ⟨rfl,p',hb,he⟩;exact ⟨rfl,C,_,_,hb,by show p'.toL :: toLs rest = _;rw [he]⟩
theorem KRow.form {C:Nat -> Prop} {B:Nat} {v:Value} {ks:List KidV} {w:World} (h:KRow C B v ks w):∃ A c,v = .slice A ks.length c:=by
 rcases h.row.2 with ⟨hv,h0⟩ | ⟨g',cap',cur,hv,_⟩
 ·exact ⟨none,0,by rw [hv,h0]⟩
 ·exact ⟨_,_,hv⟩
def RoundC (B b n place gk:Nat) (F:List PartL) (W0 wr:World) (st:List PartV):Prop :=
  (∃ C r,BS C B b r st n W0 wr) /\ closeN gk (toLs st) = F /\ stW (toLs st) <= 5000 /\ (∀ p ∈ st,p.tail.length <= 70368744177664) /\ st.length <= 1000000
theorem toLs_length (st:List PartV):(toLs st).length = st.length:=List.length_map _
theorem kids_le {p:PartV} {st:List PartV} (hp:p ∈ st) (hs:stW (toLs st) <= 5000):p.kids.length <= 5000:=by
 have h1:∀ (l:List PartL) (q:PartL),q ∈ l -> q.kids.length <= stW l:=by
  intro l
  induction l with
  | nil=>intro q hq;cases hq
  | cons x r ih =>
   intro q hq;have hx:x.kids.length <= x.wt:=Nat.le_trans (kidsW_len _) (Nat.le_add_right _ _);cases r with
   | nil =>
    obtain rfl:=List.mem_singleton.1 hq;exact hx
   | cons y r =>
    rw [stW_cons];rcases List.mem_cons.1 hq with rfl | hq
    ·omega
    ·have:=ih q hq;omega
 have:=h1 (toLs st) p.toL (List.mem_map_of_mem hp);simp only [PartV.toL,List.length_map] at this;omega
theorem closeFrom_any (C : Nat → Prop) (B b : Nat) (r : Value) (st : List PartV) (n place : Nat) (W0 w : World) (h : BS C B b r st n W0 w) (hp : 1 ≤ place) (hps : place ≤ st.length) (hw : stW (toLs st) ≤ 5000) (htl : ∀ p ∈ st, p.tail.length ≤ 70368744177664) (hl : st.length ≤ 1000000) :
    Calls Tryz.prog 38 #[.pointer (some ⟨b, 0, none⟩), .int .i64 place] w fun e w' => e = .returned (.tuple #[]) ∧ ∃ st', (∃ C' r', BS C' B b r' st' n W0 w') ∧ toLs st' = closeN (st.length - place) (toLs st) ∧ ∀ p ∈ st', p.tail.length ≤ 70368744177664 := by
  obtain ⟨F, hF⟩ : ∃ F, F = closeN (st.length - place) (toLs st) := ⟨_, rfl⟩
  have HS : Hid (RoundC B b n place (st.length - place) F W0 w st) := hide ⟨⟨C, r, h⟩, hF.symm, hw, htl, hl⟩
  have HF := hide hF
  clear h hw htl hl
  go_enter Tryz.func38, Tryz.ntmps38
  go_wp2_with fail
  go_loopg [4, 5] (st.length - place) (fun gk u4 u5 wr => ∃ st' : List PartV, st'.length = place + gk ∧ Hid (RoundC B b n place gk F W0 wr st'))
  case atStart => exact ⟨st, by omega, HS.out⟩
  case round =>
    obtain ⟨st', hlen, HR⟩ := hrel
    cases gk with
    | zero =>
      obtain ⟨⟨C1, r1, hb⟩, h1, h2, h3, h4⟩ := HR.out
      obtain ⟨g, cap, rfl, i1, i2, i3, i4⟩ := hb.form (fun e => by rw [e] at hlen; simp at hlen; omega)
      rw [hlen] at hb
      have c0 := hb.c0
      have t0 : decide ((place : Int) < ((place + 0 : Nat) : Int)) = false := decide_eq_false (by omega)
      have HE : Hid (∃ st', (∃ C' r', BS C' B b r' st' n W0 wr) ∧ toLs st' = F ∧ ∀ p ∈ st', p.tail.length ≤ 70368744177664) := hide ⟨st', ⟨C1, _, hb⟩, h1, h3⟩
      clear hb h1 h2 h3 h4 i1 i2 i3 i4 HR hlen
      go_wp2_with fail
      go_end0
      refine ⟨rfl, ?_⟩
      rw [← HF.out]
      exact HE.out
    | succ gk =>
      match st', hlen, HR with
      | [], hlen, _ => exact absurd hlen (by intro e; simp only [List.length_nil] at e; omega)
      | [p], hlen, _ => exact absurd hlen (by intro e; simp only [List.length_cons, List.length_nil] at e; omega)
      | p :: q :: rest, hlen, HR =>
        obtain ⟨⟨C1, r1, hb⟩, h1, h2, h3, h4⟩ := HR.out
        obtain ⟨g, cap, rfl, i1, i2, i3, i4⟩ := hb.form (by simp)
        have hb2 : BS C1 B b (.slice (some ⟨g, 0, none⟩) (rest.length + 1 + 1) cap) (p :: q :: rest) n W0 wr := hb
        have c0 := hb2.c0
        have f0 := hb2.free 0
        have hl1 : rest.length + 2 = place + (gk + 1) := by simpa using hlen
        have t0 : decide ((place : Int) < (rest.length : Int) + 1 + 1) = true := decide_eq_true (by omega)
        simp only [List.length_cons] at h4 i1
        have hi : Calls Tryz.prog 39 #[.pointer (some ⟨b, 0, none⟩)] wr fun e w' => e = .returned (.pointer (some ⟨g, (rest.length + 1) * 5, none⟩)) ∧ BS C1 B b (.slice (some ⟨g, 0, none⟩) (rest.length + 1 + 1) cap) (p :: q :: rest) n W0 w' := inner_at C1 B b g cap p (q :: rest) n W0 wr hb2 (by simp only [List.length_cons]; omega)
        have HI := hide hi
        have HKL := hide (kids_le (p := p) (List.mem_cons_self ..) h2)
        have HQL := hide (kids_le (p := q) (List.mem_cons_of_mem _ (List.mem_cons_self ..)) h2)
        have HH := hide (And.intro h1 (And.intro h2 (And.intro h3 h4)))
        have HC1 := hide i1
        have HLN := hide hl1
        clear hb hb2 hi h1 h2 h3 h4 i1 i2 i3 i4 HR hlen hl1
        go_wp2_with fail
        refine HI.out.mono ?_
        rintro e w1 ⟨rfl, hb1⟩
        have he : Calls Tryz.prog 40 #[.pointer (some ⟨g, (rest.length + 1) * 5, none⟩)] w1 fun e w' => e = .returned (.tuple #[]) ∧ ∃ p', BS C1 B b (.slice (some ⟨g, 0, none⟩) (rest.length + 1 + 1) cap) (p' :: q :: rest) n W0 w' ∧ p'.toL = endTextL p.toL := endTextT_any C1 B b g cap p (q :: rest) n W0 w1 hb1 (by simp only [List.length_cons]; have := HH.out.2.2.2; omega) (by have := HKL.out; omega) (HH.out.2.2.1 p (List.mem_cons_self ..))
        have HE := hide he
        clear hb1 he c0 f0
        go_wp2_with fail
        refine HE.out.mono ?_
        rintro e w2 ⟨rfl, p', hb2, hp'⟩
        have c0 := hb2.c0
        have f0 := hb2.free 0
        obtain ⟨C2, k1, k2, k3⟩ := hb2.shrink
        have hcc : w2.cell? ⟨g, (rest.length + 1) * 5, none⟩ = some (.string (str p'.name)) ∧ w2.cell? ⟨g, (rest.length + 1) * 5 + 1, none⟩ = some p'.av ∧ w2.cell? ⟨g, (rest.length + 1) * 5 + 2, none⟩ = some (.string ⟨#[]⟩) ∧ w2.cell? ⟨g, (rest.length + 1) * 5 + 3, none⟩ = some p'.kv ∧ w2.cell? ⟨g, (rest.length + 1) * 5 + 4, none⟩ = some p'.tv ∧ (∀ i, w2.frozen? ⟨g, i, none⟩ = false) := BS.cells (rest := q :: rest) hb2
        obtain ⟨x0, x1, x2, x3, x4, xf⟩ := hcc
        have HB3 := hide k1
        have HA3 := hide k2
        have HN3 := hide k3
        have hav : ∃ A c, p'.av = .slice A p'.attrs.length c := by
          obtain ⟨a, c, e⟩ := k2.1.form
          exact ⟨a, c, e⟩
        obtain ⟨KA, KC, hkv⟩ := (hb2.kids p' (List.mem_cons_self ..)).form
        obtain ⟨AA, AC, hav⟩ := hav
        have hne := hb2.rowOut.1
        rw [hav] at x1
        rw [hkv] at x3
        have HP := hide hp'
        have HKV := hide hkv
        have HAV := hide hav
        have tn1 : wrap64 ((rest.length : Int) + 1 + 1 - 1) = (rest.length : Int) + 1 := by unfold wrap64; have := HH.out.2.2.2; omega
        have tn6 : IntKind.i64.wrap ((rest.length : Int) + 1) = (rest.length : Int) + 1 := IntWalk.i64_in _ (by have := HH.out.2.2.2; omega)
        have tn7 : wrap64 ((rest.length : Int) + 1) = (rest.length : Int) + 1 := by unfold wrap64; have := HH.out.2.2.2; omega
        have tn2 : (0 : Int) ≤ (rest.length : Int) + 1 := by omega
        have tn3 : (rest.length : Int) + 1 ≤ (cap : Int) := by have := HC1.out; omega
        have tn4 : ((rest.length : Int) + 1).toNat = rest.length + 1 := by omega
        clear hb2 k1 k2 k3 hp' hkv hav
        go_wp2_with fail
        go_region
        have hfar : ∀ k, (w2.setCell ⟨b, 0, none⟩ (.slice (some ⟨g, 0, none⟩) (rest.length + 1) cap)).drew.cell? ⟨g, k, none⟩ = w2.cell? ⟨g, k, none⟩ := fun k => World.cell?_of_block (Below.heap_setCell w2 ⟨b, 0, none⟩ _ g hne)
        have y0 := (hfar _).trans x0
        have y1 := (hfar _).trans x1
        have y2 := (hfar _).trans x2
        have y3 := (hfar _).trans x3
        have hb4 := HB3.out.kept (Below.refl _ _).drew
        have ha4 : AttrsC C2 (w2.setCell ⟨b, 0, none⟩ (.slice (some ⟨g, 0, none⟩) (rest.length + 1) cap)).drew p'.av p'.attrs := HA3.out.mono (fun _ _ => rfl) (fun _ x => x)
        have hn4 : NodesC C2 (w2.setCell ⟨b, 0, none⟩ (.slice (some ⟨g, 0, none⟩) (rest.length + 1) cap)).drew p'.kv (Tr.of (p'.kids.map Prod.fst)) := HN3.out.mono (fun _ _ => rfl) (fun _ x => x)
        clear hfar x0 x1 x2 x3 x4 xf c0 f0 HB3 HA3 HN3 HE HI
        generalize (w2.setCell ⟨b, 0, none⟩ (.slice (some ⟨g, 0, none⟩) (rest.length + 1) cap)).drew = W3 at y0 y1 y2 y3 hb4 ha4 hn4 ⊢
        have HI4 := hide (inner_at2 C2 B b g cap q rest n W0 W3 hb4 (by have := HH.out.2.2.2; omega))
        have HB4 := hide hb4
        have HA4 := hide ha4
        have HN4 := hide hn4
        have HY := hide (And.intro y0 (And.intro y1 (And.intro y2 y3)))
        clear hb4 ha4 hn4 y0 y1 y2 y3
        go_wp2_with fail
        refine HI4.out.mono ?_
        rintro e w4 ⟨rfl, hb5, m, hm⟩
        have hsame : ∀ k : Nat, w4.heap[k]? = W3.heap[k]? := fun k => by rw [hm]; rfl
        have y0 := (World.cell?_of_block (a := ⟨g, (rest.length + 1) * 5, none⟩) (hsame g)).trans HY.out.1
        have y1 := (World.cell?_of_block (a := ⟨g, (rest.length + 1) * 5 + 1, none⟩) (hsame g)).trans HY.out.2.1
        have y2 := (World.cell?_of_block (a := ⟨g, (rest.length + 1) * 5 + 2, none⟩) (hsame g)).trans HY.out.2.2.1
        have y3 := (World.cell?_of_block (a := ⟨g, (rest.length + 1) * 5 + 3, none⟩) (hsame g)).trans HY.out.2.2.2
        have HA5 := hide (HA4.out.mono (C' := C2) (w' := w4) (fun k _ => hsame k) (fun _ x => x))
        have HN5 := hide (HN4.out.mono (C' := C2) (w' := w4) (fun k _ => hsame k) (fun _ x => x))
        have HB5 := hide hb5
        obtain ⟨QA, QC, hqv⟩ := (hb5.kids q (List.mem_cons_self ..)).form
        obtain ⟨z0, z1, z2, z3, z4, zf⟩ := hb5.cells
        rw [hqv] at z3
        have HQV := hide hqv
        clear hb5 hqv hm hsame HA4 HN4 HY HB4 HI4 z0 z1 z2 z4
        have HOWN : Hid (∀ W, Below w4.heap.size w4 W → W.ownsRow B 33 4 (.slice QA q.kids.length QC) q.kids.length (nodeVals q.kids)) := hide fun W hW => by
          have := ((HB5.out.kept hW).kids q (List.mem_cons_self ..)).row
          rw [HQV.out] at this; exact this
        have z3a : ∀ ob, (w4.alloc ob).cell? ⟨g, rest.length * 5 + 3, none⟩ = some (.slice QA q.kids.length QC) := fun ob => ((below_one w4 ob).cell (World.block_lt_of_cell? _ _ z3)).trans z3
        have y0a : ∀ ob, (w4.alloc ob).cell? ⟨g, (rest.length + 1) * 5, none⟩ = some (.string (str p'.name)) := fun ob => ((below_one w4 ob).cell (World.block_lt_of_cell? _ _ y0)).trans y0
        have y1a : ∀ ob, (w4.alloc ob).cell? ⟨g, (rest.length + 1) * 5 + 1, none⟩ = some (.slice AA p'.attrs.length AC) := fun ob => ((below_one w4 ob).cell (World.block_lt_of_cell? _ _ y1)).trans y1
        have y2a : ∀ ob, (w4.alloc ob).cell? ⟨g, (rest.length + 1) * 5 + 2, none⟩ = some (.string ⟨#[]⟩) := fun ob => ((below_one w4 ob).cell (World.block_lt_of_cell? _ _ y2)).trans y2
        have y3a : ∀ ob, (w4.alloc ob).cell? ⟨g, (rest.length + 1) * 5 + 3, none⟩ = some (.slice KA p'.kids.length KC) := fun ob => ((below_one w4 ob).cell (World.block_lt_of_cell? _ _ y3)).trans y3
        have tn5 : ((q.kids.length : Nat) : Int) < (q.kids.length : Int) + 1 := by omega
        clear tn1 tn2 tn3 tn4 tn6 tn7
        go_wp2_with fail
        go_region_law (first
          | (refine step_node0 rfl _ _ rfl B (.slice QA q.kids.length QC) q.kids rfl (HOWN.out _ ?_) ?_ ⟨w4.heap.size, 0, none⟩ rfl (node_row _ _ _ _ _).1 (node_row _ _ _ _ _).2.1 (node_row _ _ _ _ _).2.2.1 (node_row _ _ _ _ _).2.2.2 (by have := HQL.out; omega) ?_
             · exact ((Below.refl _ _).alloc (Nat.le_refl _) _).drew
             · exact Nat.le_trans HB5.out.size (((Below.refl w4.heap.size w4).alloc (Nat.le_refl _) _).drew).size
             intro g' cap' w5 ho2 hg2 hor2 hc2 hm2
             have hk1 : Below w4.heap.size w4 (w4.alloc (.cells #[.string ⟨#[]⟩, .slice none 0 0, .string ⟨#[]⟩, .slice none 0 0] 33)).drew := ((Below.refl w4.heap.size w4).alloc (Nat.le_refl _) _).drew
             have HB1 := hide (HB5.out.kept hk1)
             have HA6 := hide (HA5.out.mono (C' := C2) (fun k hk => hk1.block k (HB5.out.typ k hk).1) (fun _ x => x))
             have HN6 := hide (HN5.out.mono (C' := C2) (fun k hk => hk1.block k (HB5.out.typ k hk).1) (fun _ x => x))
             have hg3 := hg2
             rw [← HQV.out] at hg3 hor2
             obtain ⟨n1, n2, ⟨n3, n4, n5, n6⟩, n7, n8⟩ := app_facts HB1.out ho2 hg3 hor2
             have n9 : w5.cell? ⟨g, rest.length * 5 + 3, none⟩ = some (.slice QA q.kids.length QC) := (n8 _).trans (z3a _)
             have n11 : ¬ (g = g') := fun e => n1 e.symm
             have HO2 := hide ho2
             have HG2 := hide hg3
             have HOR := hide hor2
             clear ho2 hg2 hg3 hor2 hc2 hm2 n8 hk1))
        all_goals
          first | rw [kid_comm w5 n11] | skip
          have hb6 := HB1.out.kidWritten (q := ((⟨p'.name, p'.attrs, []⟩, Tr.of (p'.kids.map Prod.fst)), (p'.av, p'.kv))) HO2.out HG2.out HOR.out ⟨HA6.out, HN6.out⟩
          simp only at hb6
          rw [HAV.out, HKV.out] at hb6
          have HB7 := hide hb6
          clear hb6
          go_wp2_with fail
          go_roundg gk
          case rel =>
            have heq : toLs (({ q with kids := q.kids ++ [((⟨p'.name, p'.attrs, []⟩, Tr.of (p'.kids.map Prod.fst)), (.slice AA p'.attrs.length AC, .slice KA p'.kids.length KC))], kv := .slice (some ⟨g', 0, none⟩) (q.kids.length + 1) cap' } : PartV) :: rest) = closeTop (toLs (p :: q :: rest)) := by
              show _ = { q.toL with kids := q.toL.kids ++ [(endTextL p.toL).node] } :: toLs rest
              rw [← HP.out]
              simp [toLs, PartV.toL, PartL.node]
            refine ⟨_ :: rest, by have := HLN.out; simp only [List.length_cons]; omega, hide ⟨⟨C2, _, HB7.out⟩, ?_, ?_, ?_, ?_⟩⟩
            · rw [heq]; exact HH.out.1
            · rw [heq, closeTop_wt]; exact HH.out.2.1
            · intro x hx
              rcases List.mem_cons.1 hx with rfl | hx
              · exact HH.out.2.2.1 q (List.mem_cons_of_mem _ (List.mem_cons_self ..))
              · exact HH.out.2.2.1 x (List.mem_cons_of_mem _ (List.mem_cons_of_mem _ hx))
            · have := HH.out.2.2.2; simp only [List.length_cons]; omega
          case measure => omega
def closeB (is:List UInt8 -> Bool) (s:List PartL):List PartL:=match findP is s with
  | none=>s
  | some k=>closeN k s
def AskAt (K bt:Nat) (nm:ByteArray) (is:List UInt8 -> Bool):Prop :=
  ∀ (w1:World) (g o:Nat) (x:List UInt8),w1.cell? ⟨bt,1,none⟩ = some (.string nm) -> w1.cell? ⟨g,o,none⟩ = some (.string (str x)) ->
    Calls Tryz.prog K #[.pointer (some ⟨g,o,none⟩),.pointer (some ⟨bt,0,none⟩)] w1 fun e w'=>e = .returned (.bool (is x)) /\ ∃ m,w' = w1.drewN m
theorem findP_cons {is:List UInt8 -> Bool} (p q:PartL) (r:List PartL):findP is (p :: q :: r) = if is p.name = true then some 1 else if wallB p.name = true then none else (findP is (q :: r)).map (· + 1):=rfl
def AskedC (is:List UInt8 -> Bool) (st:List PartV) (k:Nat):Prop:=∃ pre p rest,st = pre ++ p :: rest /\ rest.length = k /\ findP is (toLs st) = (findP is (toLs (p :: rest))).map (· + pre.length)
theorem BS.cellOf {C:Nat -> Prop} {B b g cap m:Nat} {pre:List PartV} {p:PartV} {rest:List PartV} {n:Nat} {W0 w:World} (h:BS C B b (.slice (some ⟨g,0,none⟩) m cap) (pre ++ p :: rest) n W0 w):w.cell? ⟨g,rest.length * 5,none⟩ = some (.string (str p.name)):=by
 have hr:=h.row;have e1:=partVals_at rest.reverse p 0 (by decide) pre.reverse;rw [List.length_reverse] at e1
 have e2:(partVals (pre ++ p :: rest).reverse)[rest.length * 5 + 0]? = some (.string (str p.name)):=by
  rw [List.reverse_append,List.reverse_cons,List.append_assoc,List.singleton_append];exact e1
 have:=hr.cells (g:=g) rfl _ _ e2;rw [Addr.add_lit,Nat.zero_add,Nat.add_zero] at this;exact this
theorem close_gen (K bt:Nat) (nm:ByteArray) (is:List UInt8 -> Bool) (hK:∀ args w,(callFunc K args).run Tryz.prog w = .ok (.enter K args) w) (hask:AskAt K bt nm is)
  (C:Nat -> Prop) (B b:Nat) (r:Value) (st:List PartV) (n:Nat) (W0 w:World) (h:BS C B b r st n W0 w) (hs:st ≠ []) (hw:stW (toLs st) <= 5000) (htl:∀ p ∈ st,p.tail.length <= 70368744177664) (hl:st.length <= 1000000) (hbt:w.cell? ⟨bt,1,none⟩ = some (.string nm)) :
  Calls Tryz.prog 36 #[.pointer (some ⟨b,0,none⟩),.func (.func K) #[] #[.pointer (some ⟨bt,0,none⟩)]] w fun e w'=>e = .returned (.bool (findP is (toLs st)).isSome) /\
   ∃ st',(∃ C' r',BS C' B b r' st' n W0 w') /\ toLs st' = closeB is (toLs st) /\ ∀ p ∈ st',p.tail.length <= 70368744177664:=by
 obtain ⟨g,cap,rfl,i1,i2,i3,i4⟩:=h.form hs;have c0:=h.c0;obtain ⟨M,hM⟩:∃ M,st.length = M + 1:=⟨st.length - 1,by have:=List.length_pos_iff.2 hs;omega⟩
 have HB:=hide h
 have HS:Hid (AskedC is st M):=hide (by
  match st,hs,hM with
  | p :: rest,_,hM=>exact ⟨[],p,rest,rfl,by simpa using hM,by simp⟩)
 have HQ:=hide (And.intro hw (And.intro htl hl));have HASK:=hide hask;have HBT:=hide hbt;have HM:=hide hM;rw [hM] at c0;have hM2:M <= 1000000:=by omega
 have tn1:wrap64 ((M:Int) + 1 - 1) = (M:Int):=by unfold wrap64;omega
 clear h hs hw htl hl hask hbt i1 i2 i3 i4 hM;go_enter Tryz.func36,Tryz.ntmps36;go_wp2_with fail;go_loopg [5] M (fun gk i wr=>gk <= M /\ i = .int .i64 gk /\ Hid (∃ m,wr = w.drewN m) /\ Hid (AskedC is st gk))
 case atStart=>exact ⟨Nat.le_refl _,by first | rfl | (congr 1;omega),hide ⟨0,rfl⟩,HS.out⟩
 case round =>
  obtain ⟨hgk,rfl,HD,HA⟩:=hrel;obtain ⟨m,rfl⟩:=HD.out;have hbw:∀ q,Below w.heap.size w (w.drewN q):=fun q=>⟨rfl,rfl,rfl,Nat.le_refl _,fun _ _=>rfl⟩
  cases gk with
  | zero =>
   have hf:findP is (toLs st) = none:=by
    obtain ⟨pre,p,rest,h1,h2,h3⟩:=HA.out;have:=List.eq_nil_of_length_eq_zero h2;subst this;rw [h3];rfl
   have HE:Hid ((findP is (toLs st)).isSome = false /\ ∃ st',(∃ C' r',BS C' B b r' st' n W0 (w.drewN m)) /\ toLs st' = closeB is (toLs st) /\ ∀ p ∈ st',p.tail.length <= 70368744177664):=hide ⟨by rw [hf];rfl,st,⟨C,_,HB.out.kept (hbw m)⟩,by unfold closeB;rw [hf],HQ.out.2.1⟩;have t0:decide ((0:Int) < ((0:Nat):Int)) = false:=by decide
   clear hf HA HD;go_wp2_with fail;go_ret;rw [HE.out.1];exact ⟨rfl,HE.out.2⟩
  | succ k =>
   have t0:decide ((0:Int) < ((k + 1:Nat):Int)) = true:=decide_eq_true (by omega);have t1:(k:Int) + 1 < (M:Int) + 1:=by omega
   have t2:(0:Int) <= (k:Int) + 1:=by omega
   have t3:((k:Int) + 1).toNat = k + 1:=by omega
   obtain ⟨pre,p,rest,e1,e2,e3⟩:=HA.out
   obtain ⟨q,rest,rfl⟩:∃ q r,rest = q :: r:=by
    cases rest with
    | nil=>simp at e2
    | cons q r=>exact ⟨q,r,rfl⟩
   have hk:rest.length = k:=by simpa using e2
   have hpl:pre.length + k + 1 = M:=by
    have:=HM.out;rw [e1] at this;simp only [List.length_append,List.length_cons] at this;omega
   have hc:=HB.out.kept (hbw m);rw [e1] at hc
   have hcell:(w.drewN m).cell? ⟨g,(k + 1) * 5,none⟩ = some (.string (str p.name)):=by
    have:=BS.cellOf hc;rw [e2] at this;exact this
   have HC:=hide hcell;have hfc:findP is (toLs (p :: q :: rest)) = if is p.name = true then some 1 else if wallB p.name = true then none else (findP is (toLs (q :: rest))).map (· + 1):=findP_cons p.toL q.toL (toLs rest)
   have HAK:=hide (HASK.out (w.drewN m) g ((k + 1) * 5) p.name HBT.out hcell);obtain ⟨X,hX⟩:∃ X,X = str p.name:=⟨_,rfl⟩
   have hcw:w.cell? ⟨g,(k + 1) * 5,none⟩ = some (.string X):=by rw [hX];exact hcell
   clear hcell;cases hi:is p.name with
   | true =>
    rw [hi] at HAK;rw [hfc,if_pos hi] at e3;have hfs:findP is (toLs st) = some (pre.length + 1):=by rw [e3];simp;omega
    have hln:st.length - (k + 1) = pre.length + 1:=by have:=HM.out;omega
    have HF:=hide (fun q=>by
     have:=closeFrom_any C B b _ st n (k + 1) W0 (w.drewN q) (HB.out.kept (hbw q)) (by omega) (by have:=HM.out;omega) HQ.out.1 HQ.out.2.1 HQ.out.2.2;rw [show ((k + 1:Nat):Int) = (k:Int) + 1 by omega] at this;exact this)
    have HE:Hid ((findP is (toLs st)).isSome = true /\ closeB is (toLs st) = closeN (st.length - (k + 1)) (toLs st)):=hide ⟨by rw [hfs];rfl,by unfold closeB;rw [hfs,hln]⟩;clear e1 e2 e3 hk hpl hc hfc hi hfs hln HA HD hX;go_wp2_with fail;refine HAK.out.mono ?_;rintro e w1 ⟨rfl,mm,rfl⟩;go_wp2_with fail;refine (HF.out _).mono ?_;rintro e w2 ⟨rfl,hE⟩;have HEE:=hide hE;clear hE;go_wp2_with fail;go_ret;rw [HE.out.1,HE.out.2];exact ⟨rfl,HEE.out⟩
   | false =>
    rw [hi] at HAK;rw [hfc,if_neg (by rw [hi];exact Bool.false_ne_true)] at e3;have hzz:str p.name = X:=hX.symm;cases hw:wallB p.name with
    | true =>
     rw [if_pos hw] at e3;have hfs:findP is (toLs st) = none:=by rw [e3];rfl
     have HW:Hid (∀ w,Calls Tryz.prog 87 #[.string X] w fun e w'=>e = .returned (.bool true) /\ w = w'):=hide fun w=>by
      have:=isWall_any X w;rw [hX,str_toList,show wallL.contains p.name = true from hw,<- hX] at this;exact this
     have HE:Hid ((findP is (toLs st)).isSome = false /\ ∀ q,∃ st',(∃ C' r',BS C' B b r' st' n W0 (w.drewN q)) /\ toLs st' = closeB is (toLs st) /\ ∀ p ∈ st',p.tail.length <= 70368744177664):=hide ⟨by rw [hfs];rfl,fun q=>⟨st,⟨C,_,HB.out.kept (hbw q)⟩,by unfold closeB;rw [hfs],HQ.out.2.1⟩⟩;clear e1 e2 e3 hk hpl hc hfc hi hfs hw HA HD hX hzz;go_wp2_with fail;refine HAK.out.mono ?_;rintro e w1 ⟨rfl,mm,rfl⟩;go_wp2_with fail;refine (HW.out _).mono ?_;rintro e w2 ⟨rfl,rfl⟩;go_wp2_with fail;go_ret;rw [HE.out.1];exact ⟨rfl,HE.out.2 _⟩
    | false =>
     rw [if_neg (by rw [hw];exact Bool.false_ne_true)] at e3
     have HW:Hid (∀ w,Calls Tryz.prog 87 #[.string X] w fun e w'=>e = .returned (.bool false) /\ w = w'):=hide fun w=>by
      have:=isWall_any X w;rw [hX,str_toList,show wallL.contains p.name = false from hw,<- hX] at this;exact this
     have HN:Hid (AskedC is st k):=hide ⟨pre ++ [p],q,rest,by rw [e1];simp,hk,by
      rw [e3,Option.map_map,List.length_append]
      congr 1
      funext z
      simp only [Function.comp_apply,List.length_cons,List.length_nil];omega⟩
     have tk1:wrap64 ((k:Int) + 1 - 1) = (k:Int):=by unfold wrap64;omega
     have HKM:=hide (show k <= M by omega);clear e1 e2 e3 hk hpl hc hfc hi hw HA HD hX hzz;go_wp2_with fail;refine HAK.out.mono ?_;rintro e w1 ⟨rfl,mm,rfl⟩;go_wp2_with fail;refine (HW.out _).mono ?_;rintro e w2 ⟨rfl,rfl⟩;go_wp2_with fail;go_roundg k
     case rel=>exact ⟨HKM.out,by first | rfl | (congr 1;omega),hide ⟨m + mm,by first | rfl | rw [World.drewN_drewN]⟩,HN⟩
     case measure=>omega
theorem tok_ne {x y:List UInt8} {X Y:ByteArray} (hX:X = str x) (hY:Y = str y) (h:x ≠ y):(X.toList == Y.toList) = false:=by
 rw [hX,hY,bytes_list,bytes_list,str_toList,str_toList];exact beq_eq_false_iff_ne.2 h
theorem ask_end (bt:Nat) (nm:ByteArray):AskAt 37 bt nm (fun o=>o == nm.data.toList):=by
 intro w1 g o x hn hx;obtain ⟨X,hX⟩:∃ X,X = str x:=⟨_,rfl⟩
 rw [<- hX] at hx
 by_cases he:x = nm.data.toList
 ·have e1:X = nm:=by rw [hX,he,str_of]
  subst e1;have hb:(x == X.data.toList) = true:=beq_iff_eq.2 he;show Calls _ _ _ _ fun e w'=>e = .returned (.bool (x == _)) /\ _
  rw [hb];clear hX he hb;go_enter Tryz.func37,Tryz.ntmps37;go_wp2_with fail;go_quiet (fail);go_wp2_with fail;go_ret;exact ⟨rfl,nq,rfl⟩
 ·have hb:(x == nm.data.toList) = false:=beq_eq_false_iff_ne.2 he;have h1:(X.toList == nm.toList) = false:=tok_ne hX (str_of nm).symm he;show Calls _ _ _ _ fun e w'=>e = .returned (.bool (x == _)) /\ _
  rw [hb];clear hX he hb;go_enter Tryz.func37,Tryz.ntmps37;go_wp2_with fail;go_quiet (fail);go_wp2_with fail;go_ret;exact ⟨rfl,nq,rfl⟩
theorem ask_start (bt:Nat) (nm:ByteArray):AskAt 86 bt nm (closesB nm.data.toList):=by
 intro w1 g o x hn hx;obtain ⟨X,hX⟩:∃ X,X = str x:=⟨_,rfl⟩
 rw [<- hX] at hx;have hxl:X.data.toList = x:=by rw [hX,str_toList]
 have hc:=fun w=>closes14_any nm X w
 rw [hxl] at hc;obtain ⟨bb,hbb⟩:∃ bb,bb = closesB nm.data.toList x:=⟨_,rfl⟩
 rw [<- hbb] at hc ⊢;have HC:=hide (fun w=>(hc w).mono (fun e w' h=>(⟨h.1,0,h.2.symm⟩:e = .returned (.bool bb) /\ ∃ m,w' = w.drewN m)));clear hX hxl hc hbb;go_enter Tryz.func86,Tryz.ntmps86;go_wp2_with fail;go_quiet (first | (go_at_call 32;exact Calls.quiet_of (HC.out _)) | fail);go_wp2_with fail;go_ret;exact ⟨rfl,nq,rfl⟩
theorem BS.onto {C:Nat -> Prop} {B b:Nat} {r:Value} {st:List PartV} {n:Nat} {W0 W1 w:World} (h:BS C B b r st n W1 w) (hb:Below B W0 W1) (hs:Since4 W0 W1):BS C B b r st n W0 w :=
 ⟨h.blk,h.row,h.attrs,h.kids,h.apart,h.tails,h.quiet,h.typ,h.base,hb.trans h.below,h.size,hs.trans h.since⟩
theorem attrs_since {W w:World} {B:Nat} {u:Value} {m:Nat} {xs:List Value} (hs:Since4 W w) (hu:W.ownsRow B 43 2 u m xs):w.ownsRow B 43 2 u m xs:=by
 refine ⟨hu.1,?_⟩;rcases hu.2 with h | ⟨g,cap,cur,rfl,h1,h2,h3⟩
 ·exact .inl h
 ·exact .inr ⟨g,cap,cur,rfl,h1,(hs g _ _ _ h2 (by decide)).trans h2,h3⟩
theorem BS.withAttrs {C:Nat -> Prop} {B B' b:Nat} {r u:Value} {st:List PartV} {n:Nat} {W0 w:World} {ats:List AtL} (h:BS C B b r st n W0 w) (hu:w.ownsRow B' 43 2 u ats.length (atVals ats)):∃ C':Nat -> Prop,BS C' B b r st n W0 w /\ AttrsC C' w u ats:=by
 refine ⟨fun g=>C g \/ ∃ (cur:Array Value) (fz:Nat × Nat),w.heap[g]? = some (Obj.cells cur 43 fz),h.wider (fun x hx=>.inl hx) (fun p hp g e hc=>?_) (fun g hg=>?_),attrs_of_row hu,fun a m c e hne=>.inr ?_⟩
 ·rcases hc with hc | ⟨cur,fz,hh⟩
  ·exact (h.kids p hp).out g e hc
  ·obtain ⟨cur2,T2,fz2,h2,h3⟩:=own_ty (h.kids p hp).row e;rw [hh] at h2;injection h2 with h2;injection h2 with _ h2;rw [<- h2] at h3;exact absurd h3 (by decide)
 ·rcases hg with hg | ⟨cur,fz,hh⟩
  ·exact h.typ g hg
  ·refine ⟨lt_of_block hh,fun cur2 T2 fz2 h2=>.inr ?_⟩;rw [hh] at h2;injection h2 with h2;injection h2 with _ h2;exact h2.symm
 ·rcases hu.2 with ⟨e0,_⟩ | ⟨g,cap,cur,e0,_,hh,_⟩
  ·rw [e0] at e;cases e
  ·rw [e0] at e;injection e with e _ _;injection e with e;subst e;exact ⟨cur,_,hh⟩
theorem info_part:(Tryz.prog.info? 58).map (fun i=>(i.zero,i.size,i.bytes)) = some (some (.agg #[.string ByteArray.empty,.slice none 0 0,.string ByteArray.empty,.slice none 0 0,.slice none 0 0]),5,104):=by kernel_rfl
theorem step_part {ops:Array Oper} {o:Oper} {a:Act} {w:World} {K:Act -> World -> Prop} {Q:Exit -> Act -> World -> Prop} {E:Prop} (hgd:o.guard = none) (s x:Operand)
  (ho:o.op = .call { callee:=.builtin .append,args:=#[s,x],argTypes:=#[45,45] })
  (B:Nat) (v:Value) (st:List PartV) (hs:a.eval s = v) (hb:w.ownsRow B 58 5 v st.length (partVals st.reverse)) (hB:B <= w.heap.size) (ad:Addr) (nm:List UInt8) (ats:List AtL) (A:Option Addr) (c m:Nat)
  (hx:a.eval x = .slice (some ad) 1 1) (h0:w.cell? (ad.add 0) = some (.string (str nm))) (h1:w.cell? (ad.add 1) = some (.slice A m c)) (h2:w.cell? (ad.add 2) = some (.string ⟨#[]⟩)) (h3:w.cell? (ad.add 3) = some (.slice none 0 0)) (h4:w.cell? (ad.add 4) = some (.slice none 0 0))
  (hlen:st.length + 1 <= 1073741824)
  (h:∀ v' w',w'.ownsRow B 58 5 v' (st.length + 1) (partVals st.reverse ++ partVals [⟨nm,ats,.slice A m c,[],.slice none 0 0,[],.slice none 0 0⟩]) -> w.grownBy w' v.ownBlock -> K (a.put o.dst v') w') :
  if Region.wanted o (yielded ops a.tmps) = true then Oper.wp Tryz.prog o a w K Q else E:=by
 have hw:Region.wanted o (yielded ops a.tmps) = true:=by simp [Region.wanted,hgd]
 rw [if_pos hw];obtain ⟨i0,hi,hz0,hz1,hz2⟩:=info_parts info_part;refine wp_append_own _ s x 45 ho B 58 i0 _ 5 104 Tryz.underlying45 hi hz0 hz1 hz2 rfl (by decide) v st.length (partVals st.reverse) hs hb ad 1 1 (partVals [⟨nm,ats,.slice A m c,[],.slice none 0 0,[],.slice none 0 0⟩]) hx rfl ?_ ?_ (by unfold maxLen;omega) (by omega) hB ?_
 ·intro j u hj
  match j,hj with
  | 0,hj=>simp [partVals] at hj;subst hj;exact h0
  | 1,hj=>simp [partVals] at hj;subst hj;exact h1
  | 2,hj=>simp [partVals] at hj;subst hj;exact h2
  | 3,hj=>simp [partVals] at hj;subst hj;exact h3
  | 4,hj=>simp [partVals] at hj;subst hj;exact h4
  | (j + 5),hj=>simp [partVals] at hj
 ·intro u hu;simp [partVals] at hu;rcases hu with rfl | rfl | rfl | rfl | rfl <;> rfl
 ·intro v' w' ho' hg _;exact h v' w' ho' hg
theorem part_row (W:World) (c0 c1 c2 c3 c4:Value):(W.alloc (.cells #[c0,c1,c2,c3,c4] 58)).cell? ((⟨W.heap.size,0,none⟩:Addr).add 0) = some c0 /\ (W.alloc (.cells #[c0,c1,c2,c3,c4] 58)).cell? ((⟨W.heap.size,0,none⟩:Addr).add 1) = some c1 /\ (W.alloc (.cells #[c0,c1,c2,c3,c4] 58)).cell? ((⟨W.heap.size,0,none⟩:Addr).add 2) = some c2 /\ (W.alloc (.cells #[c0,c1,c2,c3,c4] 58)).cell? ((⟨W.heap.size,0,none⟩:Addr).add 3) = some c3 /\ (W.alloc (.cells #[c0,c1,c2,c3,c4] 58)).cell? ((⟨W.heap.size,0,none⟩:Addr).add 4) = some c4:=by
 have h:(W.alloc (.cells #[c0,c1,c2,c3,c4] 58)).heap[W.heap.size]? = some (.cells #[c0,c1,c2,c3,c4] 58 (0,0)):=by
  show (W.heap.push _)[W.heap.size]? = _
  exact Array.getElem?_push_size
 exact ⟨by rw [Addr.add_lit,Lib.cell_of_heap h];rfl,by rw [Addr.add_lit,Lib.cell_of_heap h];rfl,by rw [Addr.add_lit,Lib.cell_of_heap h];rfl,by rw [Addr.add_lit,Lib.cell_of_heap h];rfl,by rw [Addr.add_lit,Lib.cell_of_heap h];rfl⟩
def ClosedS (B b n:Nat) (is:List UInt8 -> Bool) (F:List PartL) (W1 wr:World) (st:List PartV):Prop :=
  (∃ C r,BS C B b r st n W1 wr) /\ closeAll is (toLs st).length (toLs st) = F /\ stW (toLs st) <= 5000 /\ (∀ p ∈ st,p.tail.length <= 70368744177664) /\ st.length <= 1000000 /\ st ≠ []
def StartP (B b:Nat) (t:TokL) (F:List PartL) (n:Nat) (W0 w':World):Prop :=
  ∃ C r st',BS C B b r st' (if n = 5000 then n else n + 1) W0 w' /\ toLs st' = (if n = 5000 then F else (putP t F n).1) /\ ∀ p ∈ st',p.tail.length <= 70368744177664
theorem start14_any (C : Nat → Prop) (B B' b : Nat) (r : Value) (st : List PartV) (n : Nat) (W0 w : World) (t : TokL) (u : Value) (h : BS C B b r st n W0 w) (hs : st ≠ []) (hw : stW (toLs st) ≤ 5000) (hn : n ≤ 5000) (htl : ∀ p ∈ st, p.tail.length ≤ 70368744177664) (hl : st.length ≤ 1000000) (hu : w.ownsRow B' 43 2 u t.attrs.length (atVals t.attrs)) :
    Calls Tryz.prog 35 #[.pointer (some ⟨b, 0, none⟩), tokV t u] w fun e w' => e = .returned (.tuple #[]) ∧ StartP B b t (closeAll (closesB t.name) (toLs st).length (toLs st)) n W0 w' := by
  obtain ⟨A, c, rfl⟩ : ∃ A c, u = .slice A t.attrs.length c := by
    rcases hu.2 with ⟨rfl, h0⟩ | ⟨g, cap, cur, rfl, _⟩
    · rw [h0]; exact ⟨_, _, rfl⟩
    · exact ⟨_, _, rfl⟩
  obtain ⟨F, hF⟩ : ∃ F, F = closeAll (closesB t.name) (toLs st).length (toLs st) := ⟨_, rfl⟩
  rw [← hF]
  obtain ⟨W1, hW1⟩ : ∃ W1, W1 = w.alloc (.cells #[.int .i64 (t.kind : Int), .string (str t.name), .slice A t.attrs.length c, .string (str t.text)] 51) := ⟨_, rfl⟩
  have hb1 : Below w.heap.size w W1 := by rw [hW1]; exact below_one _ _
  have hbx : W1.heap[w.heap.size]? = some (Obj.cells #[.int .i64 (t.kind : Int), .string (str t.name), .slice A t.attrs.length c, .string (str t.text)] 51 (0, 0)) := by rw [hW1]; exact heap_alloc_new w _
  have hB1 : BS C B b r st n W1 W1 := (h.kept hb1).from
  have HON : Hid (∀ C' r' st' n' w', BS C' B b r' st' n' W1 w' → BS C' B b r' st' n' W0 w') := hide fun C' r' st' n' w' h' => h'.onto ((h.kept hb1).below) ((h.kept hb1).since)
  have HU : Hid (W1.ownsRow B' 43 2 (.slice A t.attrs.length c) t.attrs.length (atVals t.attrs)) := hide (hu.kept (grown_none hb1) (by cases hv : Value.ownBlock (.slice A t.attrs.length c) <;> simp))
  have HBX : Hid (∀ w', Since4 W1 w' → w'.heap[w.heap.size]? = some (Obj.cells #[.int .i64 (t.kind : Int), .string (str t.name), .slice A t.attrs.length c, .string (str t.text)] 51 (0, 0))) := hide fun w' hs => (hs _ _ _ _ hbx (by decide)).trans hbx
  have HS : Hid (ClosedS B b n (closesB t.name) F W1 W1 st) := hide ⟨⟨C, r, hB1⟩, hF.symm, hw, htl, hl, hs⟩
  have HASK := hide (ask_start w.heap.size (str t.name))
  have HN := hide hn
  obtain ⟨nm, hnm⟩ : ∃ nm, nm = str t.name := ⟨_, rfl⟩
  have hnl : nm.data.toList = t.name := by rw [hnm, str_toList]
  have hmf : ∀ (fn : Fn) (first cap : Array Value) (w : World), (Instr.makeFunc fn first cap).run Tryz.prog w = .ok (.func fn first cap) w := fun _ _ _ _ => rfl
  have HNM := hide hnm
  have HW1 := hide hW1
  rw [← hnm] at HASK HBX
  unfold AskAt at HASK
  rw [hnl] at HASK
  have HK := hide (enters_of Tryz.func86 (by kernel_rfl) rfl)
  clear h hs hw hn htl hl hu hF hb1 hbx hB1 hnl
  unfold tokV
  rw [← hnm]
  rw [← hnm] at hW1
  clear hnm
  go_enter Tryz.func35, Tryz.ntmps35
  go_wp2_with fail
  rw [← hW1]
  clear hW1
  go_loopg [] st.length (fun gk wr => ∃ st' : List PartV, st'.length ≤ gk ∧ Hid (ClosedS B b n (closesB t.name) F W1 wr st'))
  case atStart => exact ⟨st, Nat.le_refl _, HS.out⟩
  case round =>
    obtain ⟨st', hlen, HR⟩ := hrel
    obtain ⟨⟨C1, r1, hb⟩, h1, h2, h3, h4, h5⟩ := HR.out
    have hbx := HBX.out wr hb.since
    have hcl := close_gen 86 w.heap.size nm (closesB t.name) HK.out HASK.out C1 B b r1 st' n W1 wr hb h5 h2 h3 h4 (by rw [Lib.cell_of_heap hbx]; rfl)
    cases hf : findP (closesB t.name) (toLs st') with
    | some k =>
      rw [hf] at hcl
      have HCL := hide hcl
      obtain ⟨k1, k2⟩ := findP_lt hf
      rw [toLs_length] at k2
      have hcs := closeAll_step hf
      have hcn := closeN_length k (toLs st') (by rw [toLs_length]; exact k2)
      have HP : Hid (∀ st2 : List PartV, toLs st2 = closeB (closesB t.name) (toLs st') → st2.length < st'.length ∧ closeAll (closesB t.name) (toLs st2).length (toLs st2) = F ∧ stW (toLs st2) ≤ 5000 ∧ st2.length ≤ 1000000 ∧ st2 ≠ []) := hide fun st2 he => by
        unfold closeB at he
        rw [hf] at he
        simp only at he
        have hl2 : st2.length = st'.length - k := by rw [← toLs_length, he, hcn, toLs_length]
        refine ⟨by omega, by rw [he, ← hcs]; exact h1, by rw [he, closeN_wt]; exact h2, by omega, fun e => by rw [e] at hl2; simp only [List.length_nil] at hl2; omega⟩
      clear hb hbx hcl hf k1 k2 hcs hcn h1 h2 h3 h4 h5
      go_wp2_with fail
      refine HCL.out.mono ?_
      rintro e w2 ⟨rfl, st2, hb2, he2, ht2⟩
      have HB2 := hide hb2
      have HE2 := hide (HP.out st2 he2)
      have HT2 := hide ht2
      clear hb2 he2 ht2
      go_wp2_with fail
      cases gk with
      | zero => exact absurd hlen (by have := HE2.out.1; omega)
      | succ gk =>
      go_roundg gk
      case rel => exact ⟨st2, by have := HE2.out.1; omega, hide ⟨HB2.out, HE2.out.2.1, HE2.out.2.2.1, HT2.out, HE2.out.2.2.2.1, HE2.out.2.2.2.2⟩⟩
      case measure => omega
    | none =>
      rw [hf] at hcl
      have HCL := hide hcl
      have HP : Hid (∀ st2 : List PartV, toLs st2 = closeB (closesB t.name) (toLs st') → toLs st2 = F ∧ stW (toLs st2) ≤ 5000 ∧ st2.length ≤ 1000000 ∧ st2 ≠ []) := hide fun st2 he => by
        unfold closeB at he
        rw [hf] at he
        simp only at he
        have hl2 : st2.length = st'.length := by rw [← toLs_length, he, toLs_length]
        refine ⟨by rw [he, ← h1, closeAll_none hf], by rw [he]; exact h2, by omega, fun e => by rw [e] at hl2; simp only [List.length_nil] at hl2; exact h5 (List.eq_nil_of_length_eq_zero hl2.symm)⟩
      clear hb hbx hcl hf h1 h2 h3 h4 h5
      go_wp2_with fail
      refine HCL.out.mono ?_
      rintro e w2 ⟨rfl, st2, ⟨C2, r2, hb2⟩, he2, ht2⟩
      have HE2 := hide (HP.out st2 he2)
      have HT2 := hide ht2
      obtain ⟨g, cap, rfl, i1, i2, i3, i4⟩ := hb2.form HE2.out.2.2.2
      have HB2 := hide hb2
      have HC2 := hide (And.intro i1 i2)
      clear hb2 he2 ht2 HP HCL HR hlen i1 i2 i3 i4
      by_cases hn5 : n = 5000
      · have HR2 : Hid (StartP B b t F n W0 w2) := hide ⟨C2, _, st2, by rw [if_pos hn5]; exact HON.out _ _ _ _ _ HB2.out, by rw [if_pos hn5]; exact HE2.out.1, HT2.out⟩
        have HT := hide (take_no C2 B b _ st2 W1 w2 (by have := HB2.out; rw [hn5] at this; exact this))
        clear hn5
        go_wp2_with fail
        refine HT.out.mono ?_
        rintro e w3 ⟨rfl, rfl⟩
        go_wp2_with fail
        try simp only [Exit.inBlock, Exit.then]
        refine bodyPost_ret (results_none rfl _ _ _) rfl ?_
        exact ⟨rfl, HR2.out⟩
      · match st2, HB2, HE2, HT2, HC2 with
        | [], _, HE2, _, _ => exact absurd rfl HE2.out.2.2.2
        | p :: rest, HB2, HE2, HT2, HC2 =>
        have hb2 : BS C2 B b (.slice (some ⟨g, 0, none⟩) (rest.length + 1) cap) (p :: rest) n W1 w2 := HB2.out
        have hn5' : n < 5000 := by have := HN.out; omega
        have hrl : rest.length ≤ 1000000 := by have := HE2.out.2.2.1; simp only [List.length_cons] at this; omega
        have HT := hide (take_yes C2 B b _ (p :: rest) n W1 w2 hb2 hn5')
        have HRL := hide hrl
        have HN5 := hide hn5
        clear hb2 hn5 hn5' hrl
        go_wp2_with fail
        refine HT.out.mono ?_
        rintro e w3 ⟨rfl, hb3⟩
        have HI := hide (inner_at C2 B b g cap p rest (n + 1) W1 w3 hb3 HRL.out)
        clear hb3
        go_wp2_with fail
        refine HI.out.mono ?_
        rintro e w4 ⟨rfl, hb4⟩
        have HEX := hide (endTextT_any C2 B b g cap p rest (n + 1) W1 w4 hb4 (by have := HRL.out; omega) (by have := kids_le (p := p) (List.mem_cons_self ..) HE2.out.2.1; omega) (HT2.out p (List.mem_cons_self ..)))
        clear hb4
        go_wp2_with fail
        refine HEX.out.mono ?_
        rintro e w5 ⟨rfl, p', hb5, hp'⟩
        obtain ⟨C3, hb6, ha6⟩ := hb5.withAttrs (attrs_since hb5.since HU.out)
        have hbx := HBX.out w5 hb5.since
        have bx1 : w5.cell? ⟨w.heap.size, 1, none⟩ = some (.string nm) := by rw [Lib.cell_of_heap hbx]; rfl
        have bx2 : w5.cell? ⟨w.heap.size, 2, none⟩ = some (.slice A t.attrs.length c) := by rw [Lib.cell_of_heap hbx]; rfl
        have hk6 := below_one w5 (Obj.cells #[.string nm, .slice A t.attrs.length c, .string ⟨#[]⟩, .slice none 0 0] 33)
        have HB6 := hide (hb6.kept hk6)
        have HA6 := hide (ha6.mono (C' := C3) (fun k hk => hk6.block k (hb6.typ k hk).1) (fun _ x => x))
        have HP := hide hp'
        have hbe := node_row w5 (.string nm) (.slice A t.attrs.length c) (.string ⟨#[]⟩) (.slice none 0 0)
        rw [Addr.add_zero', Addr.add_lit, Addr.add_lit, Addr.add_lit, Nat.zero_add, Nat.zero_add, Nat.zero_add] at hbe
        have HBE := hide hbe
        have HBXC : Hid ((w5.alloc (Obj.cells #[.string nm, .slice A t.attrs.length c, .string ⟨#[]⟩, .slice none 0 0] 33)).cell? ⟨w.heap.size, 1, none⟩ = some (.string nm)) := hide ((hk6.cell (World.block_lt_of_cell? _ _ bx1)).trans bx1)
        have bx1a := HBXC.out
        clear hb5 hb6 ha6 hbx hk6 hp' hbe
        go_wp2_with fail
        clear bx1a
        generalize (w5.alloc (Obj.cells #[.string nm, .slice A t.attrs.length c, .string ⟨#[]⟩, .slice none 0 0] 33)) = W6 at HB6 HA6 HBE HBXC ⊢
        have hpl : p'.kids.length ≤ 5001 := by
          have h1 := kids_le (p := p) (List.mem_cons_self ..) HE2.out.2.1
          have h2 := congrArg (fun z : PartL => z.kids.length) HP.out
          unfold endTextL at h2
          split at h2
          · simp only [PartV.toL, List.length_map] at h2; omega
          · simp only [PartV.toL, List.length_map, List.length_append, List.length_cons, List.length_nil] at h2; omega
        have HPL := hide hpl
        have htp : p'.tail = [] := by
          have h2 := congrArg (fun z : PartL => z.tail) HP.out
          simp only [endText_tail] at h2
          exact h2
        have HTP : Hid (p'.tail.length ≤ 70368744177664) := hide (by rw [htp]; exact Nat.zero_le _)
        have HQT : Hid (∀ x ∈ p' :: rest, x.tail = []) := hide (fun x hx => by
          rcases List.mem_cons.1 hx with rfl | hx
          · exact htp
          · exact HB6.out.quiet x hx)
        have hv := fun w => void14_any nm w
        rw [show nm.data.toList = t.name by rw [HNM.out, str_toList]] at hv
        clear hpl htp bx1 bx2
        cases hvb : voidL.contains t.name with
        | true =>
          rw [hvb] at hv
          have HV := hide hv
          have HCD : Hid (voidB t.name = true ∨ 30 < (p.toL :: toLs rest).length) := hide (.inl hvb)
          clear hv hvb
          refine (HV.out _).mono ?_
          rintro e w8 ⟨rfl, rfl⟩
          have hb7 := HB6.out
          obtain ⟨QA, QC, hqv⟩ := (hb7.kids p' (List.mem_cons_self ..)).form
          obtain ⟨z0, z1, z2, z3, z4, zf⟩ := hb7.cells
          rw [hqv] at z3
          have HQV := hide hqv
          obtain ⟨y0, y1, y2, y3⟩ := HBE.out
          clear hb7 hqv z0 z1 z2 z4
          have HOWN : Hid (∀ W, Below W6.heap.size W6 W → W.ownsRow B 33 4 (.slice QA p'.kids.length QC) p'.kids.length (nodeVals p'.kids)) := hide fun W hW => by
            have := ((HB6.out.kept hW).kids p' (List.mem_cons_self ..)).row
            rw [HQV.out] at this; exact this
          have z3a : ∀ ob, (W6.alloc ob).cell? ⟨g, rest.length * 5 + 3, none⟩ = some (.slice QA p'.kids.length QC) := fun ob => ((below_one W6 ob).cell (World.block_lt_of_cell? _ _ z3)).trans z3
          have y0a : ∀ ob, (W6.alloc ob).cell? ⟨w5.heap.size, 0, none⟩ = some (.string nm) := fun ob => ((below_one W6 ob).cell (World.block_lt_of_cell? _ _ y0)).trans y0
          have y1a : ∀ ob, (W6.alloc ob).cell? ⟨w5.heap.size, 1, none⟩ = some (.slice A t.attrs.length c) := fun ob => ((below_one W6 ob).cell (World.block_lt_of_cell? _ _ y1)).trans y1
          have y2a : ∀ ob, (W6.alloc ob).cell? ⟨w5.heap.size, 2, none⟩ = some (.string ⟨#[]⟩) := fun ob => ((below_one W6 ob).cell (World.block_lt_of_cell? _ _ y2)).trans y2
          have y3a : ∀ ob, (W6.alloc ob).cell? ⟨w5.heap.size, 3, none⟩ = some (.slice none 0 0) := fun ob => ((below_one W6 ob).cell (World.block_lt_of_cell? _ _ y3)).trans y3
          have tn5 : ((p'.kids.length : Nat) : Int) < (p'.kids.length : Int) + 1 := by omega
          go_wp2_with fail
          go_region_law (first
            | (refine step_node0 rfl _ _ rfl B (.slice QA p'.kids.length QC) p'.kids rfl (HOWN.out _ ?_) ?_ ⟨W6.heap.size, 0, none⟩ rfl (node_row _ _ _ _ _).1 (node_row _ _ _ _ _).2.1 (node_row _ _ _ _ _).2.2.1 (node_row _ _ _ _ _).2.2.2 (by have := HPL.out; omega) ?_
               · exact ((Below.refl _ _).alloc (Nat.le_refl _) _).drew
               · exact Nat.le_trans HB6.out.size (((Below.refl W6.heap.size W6).alloc (Nat.le_refl _) _).drew).size
               intro g' cap' w7 ho2 hg2 hor2 hc2 hm2
               have hk1 : Below W6.heap.size W6 (W6.alloc (.cells #[.string ⟨#[]⟩, .slice none 0 0, .string ⟨#[]⟩, .slice none 0 0] 33)).drew := ((Below.refl W6.heap.size W6).alloc (Nat.le_refl _) _).drew
               have HB1 := hide (HB6.out.kept hk1)
               have HA7 := hide (HA6.out.mono (C' := C3) (fun k hk => hk1.block k (HB6.out.typ k hk).1) (fun _ x => x))
               have hg3 := hg2
               rw [← HQV.out] at hg3 hor2
               obtain ⟨n1, n2, ⟨n3, n4, n5, n6⟩, n7, n8⟩ := app_facts HB1.out ho2 hg3 hor2
               have n9 : w7.cell? ⟨g, rest.length * 5 + 3, none⟩ = some (.slice QA p'.kids.length QC) := (n8 _).trans (z3a _)
               have n11 : ¬ (g = g') := fun e => n1 e.symm
               have HO2 := hide ho2
               have HG2 := hide hg3
               have HOR := hide hor2
               clear ho2 hg2 hg3 hor2 hc2 hm2 n8 hk1))
          all_goals
            first | rw [kid_comm w7 n11] | skip
            have hb8 := HB1.out.kidWritten (q := ((⟨t.name, t.attrs, []⟩, .nil), (.slice A t.attrs.length c, .slice none 0 0))) HO2.out HG2.out HOR.out ⟨HA7.out, .inl ⟨rfl, rfl⟩⟩
            simp only at hb8
            rw [← HNM.out] at hb8
            have HB8 := hide hb8
            clear hb8
            go_wp2_with fail
            try simp only [Exit.inBlock, Exit.then]
            refine bodyPost_ret (results_none rfl _ _ _) rfl ?_
            refine ⟨rfl, C3, _, _, by rw [if_neg HN5.out]; exact HON.out _ _ _ _ _ HB8.out, ?_, ?_⟩
            · rw [if_neg HN5.out, ← HE2.out.1]
              show _ = (putP t (p.toL :: toLs rest) n).1
              rw [putP_cons, if_pos HCD.out, ← HP.out]
              simp [toLs, PartV.toL]
            · intro x hx
              rcases List.mem_cons.1 hx with rfl | hx
              · exact HTP.out
              · exact HT2.out x (List.mem_cons_of_mem _ hx)
        | false =>
          rw [hvb] at hv
          have HV := hide hv
          by_cases hd : 30 < rest.length + 1
          · have HCD : Hid (voidB t.name = true ∨ 30 < (p.toL :: toLs rest).length) := hide (.inr (by rw [List.length_cons, toLs_length]; exact hd))
            have d0 : decide ((30 : Int) < (rest.length : Int) + 1) = true := decide_eq_true (by omega)
            have cc0 := HB6.out.c0
            clear hv hvb hd
            refine (HV.out _).mono ?_
            rintro e w8 ⟨rfl, rfl⟩
            have hb7 := HB6.out
            obtain ⟨QA, QC, hqv⟩ := (hb7.kids p' (List.mem_cons_self ..)).form
            obtain ⟨z0, z1, z2, z3, z4, zf⟩ := hb7.cells
            rw [hqv] at z3
            have HQV := hide hqv
            obtain ⟨y0, y1, y2, y3⟩ := HBE.out
            clear hb7 hqv z0 z1 z2 z4
            have HOWN : Hid (∀ W, Below W6.heap.size W6 W → W.ownsRow B 33 4 (.slice QA p'.kids.length QC) p'.kids.length (nodeVals p'.kids)) := hide fun W hW => by
              have := ((HB6.out.kept hW).kids p' (List.mem_cons_self ..)).row
              rw [HQV.out] at this; exact this
            have z3a : ∀ ob, (W6.alloc ob).cell? ⟨g, rest.length * 5 + 3, none⟩ = some (.slice QA p'.kids.length QC) := fun ob => ((below_one W6 ob).cell (World.block_lt_of_cell? _ _ z3)).trans z3
            have y0a : ∀ ob, (W6.alloc ob).cell? ⟨w5.heap.size, 0, none⟩ = some (.string nm) := fun ob => ((below_one W6 ob).cell (World.block_lt_of_cell? _ _ y0)).trans y0
            have y1a : ∀ ob, (W6.alloc ob).cell? ⟨w5.heap.size, 1, none⟩ = some (.slice A t.attrs.length c) := fun ob => ((below_one W6 ob).cell (World.block_lt_of_cell? _ _ y1)).trans y1
            have y2a : ∀ ob, (W6.alloc ob).cell? ⟨w5.heap.size, 2, none⟩ = some (.string ⟨#[]⟩) := fun ob => ((below_one W6 ob).cell (World.block_lt_of_cell? _ _ y2)).trans y2
            have y3a : ∀ ob, (W6.alloc ob).cell? ⟨w5.heap.size, 3, none⟩ = some (.slice none 0 0) := fun ob => ((below_one W6 ob).cell (World.block_lt_of_cell? _ _ y3)).trans y3
            have tn5 : ((p'.kids.length : Nat) : Int) < (p'.kids.length : Int) + 1 := by omega
            go_wp2_with fail
            clear cc0
            go_region_law (first
              | (refine step_node0 rfl _ _ rfl B (.slice QA p'.kids.length QC) p'.kids rfl (HOWN.out _ ?_) ?_ ⟨W6.heap.size, 0, none⟩ rfl (node_row _ _ _ _ _).1 (node_row _ _ _ _ _).2.1 (node_row _ _ _ _ _).2.2.1 (node_row _ _ _ _ _).2.2.2 (by have := HPL.out; omega) ?_
                 · exact ((Below.refl _ _).alloc (Nat.le_refl _) _).drew
                 · exact Nat.le_trans HB6.out.size (((Below.refl W6.heap.size W6).alloc (Nat.le_refl _) _).drew).size
                 intro g' cap' w7 ho2 hg2 hor2 hc2 hm2
                 have hk1 : Below W6.heap.size W6 (W6.alloc (.cells #[.string ⟨#[]⟩, .slice none 0 0, .string ⟨#[]⟩, .slice none 0 0] 33)).drew := ((Below.refl W6.heap.size W6).alloc (Nat.le_refl _) _).drew
                 have HB1 := hide (HB6.out.kept hk1)
                 have HA7 := hide (HA6.out.mono (C' := C3) (fun k hk => hk1.block k (HB6.out.typ k hk).1) (fun _ x => x))
                 have hg3 := hg2
                 rw [← HQV.out] at hg3 hor2
                 obtain ⟨n1, n2, ⟨n3, n4, n5, n6⟩, n7, n8⟩ := app_facts HB1.out ho2 hg3 hor2
                 have n9 : w7.cell? ⟨g, rest.length * 5 + 3, none⟩ = some (.slice QA p'.kids.length QC) := (n8 _).trans (z3a _)
                 have n11 : ¬ (g = g') := fun e => n1 e.symm
                 have HO2 := hide ho2
                 have HG2 := hide hg3
                 have HOR := hide hor2
                 clear ho2 hg2 hg3 hor2 hc2 hm2 n8 hk1))
            all_goals
              first | rw [kid_comm w7 n11] | skip
              have hb8 := HB1.out.kidWritten (q := ((⟨t.name, t.attrs, []⟩, .nil), (.slice A t.attrs.length c, .slice none 0 0))) HO2.out HG2.out HOR.out ⟨HA7.out, .inl ⟨rfl, rfl⟩⟩
              simp only at hb8
              rw [← HNM.out] at hb8
              have HB8 := hide hb8
              clear hb8
              go_wp2_with fail
              try simp only [Exit.inBlock, Exit.then]
              refine bodyPost_ret (results_none rfl _ _ _) rfl ?_
              refine ⟨rfl, C3, _, _, by rw [if_neg HN5.out]; exact HON.out _ _ _ _ _ HB8.out, ?_, ?_⟩
              · rw [if_neg HN5.out, ← HE2.out.1]
                show _ = (putP t (p.toL :: toLs rest) n).1
                rw [putP_cons, if_pos HCD.out, ← HP.out]
                simp [toLs, PartV.toL]
              · intro x hx
                rcases List.mem_cons.1 hx with rfl | hx
                · exact HTP.out
                · exact HT2.out x (List.mem_cons_of_mem _ hx)
          · have HCD : Hid (¬ (voidB t.name = true ∨ 30 < (p.toL :: toLs rest).length)) := hide (by
              rw [List.length_cons, toLs_length]
              exact fun e => e.elim (fun e => by rw [show voidB t.name = false from hvb] at e; cases e) hd)
            have d0 : decide ((30 : Int) < (rest.length : Int) + 1) = false := decide_eq_false (by omega)
            have cc0 := HB6.out.c0
            clear hv hvb hd
            refine (HV.out _).mono ?_
            rintro e w8 ⟨rfl, rfl⟩
            have hb7 := HB6.out
            have c0 := hb7.c0
            have f0 := hb7.free 0
            have c0a : ∀ ob, (W6.alloc ob).cell? ⟨b, 0, none⟩ = some (.slice (some ⟨g, 0, none⟩) (rest.length + 1) cap) := fun ob => ((below_one W6 ob).cell (World.block_lt_of_cell? _ _ c0)).trans c0
            obtain ⟨y0, y1, y2, y3⟩ := HBE.out
            clear hb7
            have HOWN : Hid (∀ W, Below W6.heap.size W6 W → W.ownsRow B 58 5 (.slice (some ⟨g, 0, none⟩) (rest.length + 1) cap) (p' :: rest).length (partVals (p' :: rest).reverse)) := hide fun W hW => (HB6.out.kept hW).row
            have y0a : ∀ ob, (W6.alloc ob).cell? ⟨w5.heap.size, 0, none⟩ = some (.string nm) := fun ob => ((below_one W6 ob).cell (World.block_lt_of_cell? _ _ y0)).trans y0
            have y1a : ∀ ob, (W6.alloc ob).cell? ⟨w5.heap.size, 1, none⟩ = some (.slice A t.attrs.length c) := fun ob => ((below_one W6 ob).cell (World.block_lt_of_cell? _ _ y1)).trans y1
            have y2a : ∀ ob, (W6.alloc ob).cell? ⟨w5.heap.size, 2, none⟩ = some (.string ⟨#[]⟩) := fun ob => ((below_one W6 ob).cell (World.block_lt_of_cell? _ _ y2)).trans y2
            have y3a : ∀ ob, (W6.alloc ob).cell? ⟨w5.heap.size, 3, none⟩ = some (.slice none 0 0) := fun ob => ((below_one W6 ob).cell (World.block_lt_of_cell? _ _ y3)).trans y3
            go_wp2_with fail
            go_region_law (first
              | (refine step_part rfl _ _ rfl B (.slice (some ⟨g, 0, none⟩) (rest.length + 1) cap) (p' :: rest) rfl (HOWN.out _ ?_) ?_ ⟨W6.heap.size, 0, none⟩ t.name t.attrs A c t.attrs.length rfl ((part_row _ _ _ _ _ _).1.trans (by rw [HNM.out])) (part_row _ _ _ _ _ _).2.1 (part_row _ _ _ _ _ _).2.2.1 (part_row _ _ _ _ _ _).2.2.2.1 (part_row _ _ _ _ _ _).2.2.2.2 (by have := HRL.out; simp only [List.length_cons]; omega) ?_
                 · exact ((Below.refl _ _).alloc (Nat.le_refl _) _).drew
                 · exact Nat.le_trans HB6.out.size (((Below.refl W6.heap.size W6).alloc (Nat.le_refl _) _).drew).size
                 intro v' w7 ho2 hg2
                 obtain ⟨ao, n', c', rfl⟩ : ∃ ao n' c', v' = .slice ao n' c' := by
                   rcases ho2.2 with ⟨hv, _⟩ | ⟨g0, c0, cur, hv, _⟩
                   · exact ⟨_, _, _, hv⟩
                   · exact ⟨_, _, _, hv⟩
                 have hk1 : Below W6.heap.size W6 (W6.alloc (.cells #[.string nm, .slice A t.attrs.length c, .string ⟨#[]⟩, .slice none 0 0, .slice none 0 0] 58)).drew := ((Below.refl W6.heap.size W6).alloc (Nat.le_refl _) _).drew
                 have HB1 := hide (HB6.out.kept hk1)
                 have HA7 := hide (HA6.out.mono (C' := C3) (fun k hk => hk1.block k (HB6.out.typ k hk).1) (fun _ x => x))
                 have hbb := HB1.out.blk
                 have hbg : w7.heap[b]? = _ := (hg2.block b (lt_of_block hbb) (fun e => (ownsRow_other HB1.out.row (r := b) (fun cur hx => HB1.out.out.2 cur _ (by decide) hx)) e.symm)).trans hbb
                 have n9 : w7.cell? ⟨b, 0, none⟩ = some (.slice (some ⟨g, 0, none⟩) (rest.length + 1) cap) := by rw [Lib.cell_of_heap hbg]; rfl
                 have n10 : w7.frozen? ⟨b, 0, none⟩ = false := Lib.frozen_of_heap hbg 0
                 have HO2 := hide ho2
                 have HG2 := hide hg2
                 clear ho2 hg2 hk1 hbb hbg))
            all_goals
              have hb8 := HB1.out.pushPart t.name t.attrs (.slice A t.attrs.length c) HA7.out HQT.out HO2.out HG2.out
              have HB8 := hide hb8
              clear hb8
              go_wp2_with fail
              go_end0
              refine ⟨rfl, C3, _, _, by rw [if_neg HN5.out]; exact HON.out _ _ _ _ _ HB8.out, ?_, ?_⟩
              · rw [if_neg HN5.out, ← HE2.out.1]
                show _ = (putP t (p.toL :: toLs rest) n).1
                rw [putP_cons, if_neg HCD.out, ← HP.out]
                simp [toLs, PartV.toL]
              · intro x hx
                rcases List.mem_cons.1 hx with rfl | hx
                · exact Nat.zero_le _
                · rcases List.mem_cons.1 hx with rfl | hx
                  · exact HTP.out
                  · exact HT2.out x (List.mem_cons_of_mem _ hx)
theorem isMark_off {c:UInt8} {r:List UInt8} (h:c ≠ 60):isMarkB (c :: r) = false:=by
 cases r with
 | nil =>
  unfold isMarkB;split
  ·rename_i heq;injection heq with h1 h2;cases h2
  ·rfl
 | cons a b =>
  unfold isMarkB;split
  ·rename_i heq;injection heq with h1 h2;exact absurd h1 h
  ·rfl
theorem lowC_two (c:UInt8):lowC (lowC c) = lowC c:=u8_all (p:=fun c=>lowC (lowC c) = lowC c) (by decide +kernel) c
theorem lowL_two (l:List UInt8):lowL (lowL l) = lowL l:=by
 unfold lowL;rw [List.map_map];exact List.map_congr_left fun c _=>lowC_two c
def FormA (A:List AtL):Prop:=A.length <= 30 /\ A.Pairwise (fun a b=>a.1 ≠ b.1)
theorem formA_add {A:List AtL} {a:AtL} (h:FormA A):FormA (if countsB A a.1 = true then A ++ [a] else A):=by
 split
 ·rename_i hc;unfold countsB at hc;rw [Bool.and_eq_true,decide_eq_true_eq,Bool.not_eq_true',List.any_eq_false] at hc;refine ⟨by rw [List.length_append];simp;omega,?_⟩;rw [List.pairwise_append];refine ⟨h.2,List.pairwise_singleton _ _,fun x hx y hy=>?_⟩;obtain rfl:=List.mem_singleton.1 hy;have:=hc.2 x hx
  simpa using this
 ·exact h
theorem tag_form {dec:List UInt8 -> List UInt8} {l n b:List UInt8} {A:List AtL} (h:tagL dec l = some (n,A,b)):FormA A /\ lowL n = n:=by
 unfold tagL at h;cases ha:attrsLL dec [] (upL nameEndB l).2 with
 | none=>rw [ha] at h;cases h
 | some p =>
  obtain ⟨B,x⟩:=p;rw [ha] at h;injection h with h;injection h with h1 h;injection h with h2 _;obtain ⟨_,h3,_⟩:=attrsLL_ind dec (P:=fun A _=>FormA A) (fun A l c r _ _ hA=>formA_add hA) _ [] _ (Nat.le_refl _) ⟨by simp,List.Pairwise.nil⟩ B x ha;rw [<- h1,<- h2];exact ⟨h3,lowL_two _⟩
def FormT (t:TokL):Prop:=(t.kind = 1 -> t.text ≠ []) /\ lowL t.name = t.name /\ t.attrs.length <= 30 /\ (t.kind ≠ 2 -> t.attrs = []) /\ t.attrs.Pairwise (fun a b=>a.1 ≠ b.1)
theorem form_chars {x:List UInt8} (h:x ≠ []):FormT (charsT x):=⟨fun _=>h,rfl,by simp [charsT],fun _=>rfl,List.Pairwise.nil⟩
theorem form_rem (x:List UInt8):FormT (remT x):=⟨fun e=>absurd (show (4:Nat) = 1 from e) (by decide),rfl,by simp [remT],fun _=>rfl,List.Pairwise.nil⟩
theorem form_end {n:List UInt8} (h:lowL n = n):FormT (endT n):=⟨fun e=>absurd (show (3:Nat) = 1 from e) (by decide),h,by simp [endT],fun _=>rfl,List.Pairwise.nil⟩
theorem form_start {n:List UInt8} {A:List AtL} (h:lowL n = n) (hA:FormA A):FormT (startT n A):=⟨fun e=>absurd (show (2:Nat) = 1 from e) (by decide),h,hA.1,fun e=>absurd rfl e,hA.2⟩
theorem mark_form (dec:List UInt8 -> List UInt8) (l:List UInt8):(∀ t,(markL dec l).1 = some t -> FormT t /\ t.kind ≠ 1) /\ ((markL dec l).1 = none -> (markL dec l).2.1 = []) /\ (markL dec l).2.1.length + (markL dec l).2.2.length <= l.length:=by
 have hrem:∀ k:List UInt8,(∀ t,(remL k).1 = some t -> FormT t /\ t.kind ≠ 1) /\ ((remL k).1 = none -> (remL k).2.1 = []) /\ (remL k).2.1.length + (remL k).2.2.length <= k.length:=fun k =>
  ⟨fun t ht=>(by injection ht with ht;rw [<- ht];exact ⟨form_rem _,show (4:Nat) ≠ 1 by decide⟩),fun h=>(by cases h),by have:=remL_len k;simpa [remL] using this⟩
 have hlong:∀ k:List UInt8,(∀ t,(longL k).1 = some t -> FormT t /\ t.kind ≠ 1) /\ ((longL k).1 = none -> (longL k).2.1 = []) /\ (longL k).2.1.length + (longL k).2.2.length <= k.length:=fun k=>by
  have h3:=longL_len k;unfold longL at h3 ⊢;split
  ·exact ⟨fun t ht=>(by injection ht with ht;rw [<- ht];exact ⟨form_rem _,show (4:Nat) ≠ 1 by decide⟩),fun h=>(by cases h),by simp⟩
  ·exact ⟨fun t ht=>(by injection ht with ht;rw [<- ht];exact ⟨form_rem _,show (4:Nat) ≠ 1 by decide⟩),fun h=>(by cases h),by simp;omega⟩
  ·exact ⟨fun t ht=>(by injection ht with ht;rw [<- ht];exact ⟨form_rem _,show (4:Nat) ≠ 1 by decide⟩),fun h=>(by cases h),by have:=cutAt_len remEnd k;simpa using this⟩
 have hend:∀ k:List UInt8,(∀ t,(endL dec k).1 = some t -> FormT t /\ t.kind ≠ 1) /\ ((endL dec k).1 = none -> (endL dec k).2.1 = []) /\ (endL dec k).2.1.length + (endL dec k).2.2.length <= k.length:=fun k=>by
  have h3:=endL_len dec k;unfold endL at h3 ⊢;cases h:tagL dec k with
  | none=>exact ⟨fun t ht=>(by cases ht),fun _=>rfl,by simp⟩
  | some p =>
   obtain ⟨n,A,b⟩:=p;rw [h] at h3;exact ⟨fun t ht=>(by injection ht with ht;rw [<- ht];exact ⟨form_end (tag_form h).2,show (3:Nat) ≠ 1 by decide⟩),fun h=>(by cases h),by simpa using h3⟩
 have hstart:∀ k:List UInt8,(∀ t,(startL dec k).1 = some t -> FormT t /\ t.kind ≠ 1) /\ ((startL dec k).1 = none -> (startL dec k).2.1 = []) /\ (startL dec k).2.1.length + (startL dec k).2.2.length <= k.length:=fun k=>by
  unfold startL;cases h:tagL dec k with
  | none=>exact ⟨fun t ht=>(by cases ht),fun _=>rfl,by simp⟩
  | some p =>
   obtain ⟨n,A,b⟩:=p;have h4:=tagL_len h;obtain ⟨h5,h6⟩:=tag_form h;simp only;split
   ·refine ⟨fun t ht=>(by injection ht with ht;rw [<- ht];exact ⟨form_start h6 h5,show (2:Nat) ≠ 1 by decide⟩),fun h=>(by cases h),?_⟩;show (b.take _).length + (b.drop _).length <= _
    rw [<- List.length_append,List.take_append_drop];omega
   ·refine ⟨fun t ht=>(by injection ht with ht;rw [<- ht];exact ⟨form_start h6 h5,show (2:Nat) ≠ 1 by decide⟩),fun h=>(by cases h),?_⟩;show ([]:List UInt8).length + b.length <= _
    simp;omega
 unfold markL;split
 ·rename_i r;split
  ·exact ⟨fun t ht=>(by cases ht),fun _=>rfl,by simp⟩
  ·rename_i c q;split
   ·obtain ⟨a,b,d⟩:=hend (c :: q);exact ⟨a,b,by simp only [List.length_cons] at d ⊢;omega⟩
   ·split
    ·exact ⟨fun t ht=>(by cases ht),fun _=>rfl,by simp;omega⟩
    ·obtain ⟨a,b,d⟩:=hrem (c :: q);exact ⟨a,b,by simp only [List.length_cons] at d ⊢;omega⟩
 ·rename_i r;split
  ·rename_i x;obtain ⟨a,b,d⟩:=hlong x;exact ⟨a,b,by simp only [List.length_cons] at d ⊢;omega⟩
  ·obtain ⟨a,b,d⟩:=hrem r;exact ⟨a,b,by simp only [List.length_cons] at d ⊢;omega⟩
 ·rename_i r;exact hrem (63 :: r)
 ·exact hstart l
def FormsL (L:List TokL):Prop:=(∀ t ∈ L,FormT t) /\ ∀ (i:Nat) (a b:TokL),L[i]? = some a -> L[i + 1]? = some b -> ¬ (a.kind = 1 /\ b.kind = 1)
def EndsL (L:List TokL):Prop:=∀ t,L.getLast? = some t -> t.kind ≠ 1
theorem forms_snoc {L:List TokL} {t:TokL} (h:FormsL L) (ht:FormT t) (he:t.kind = 1 -> EndsL L):FormsL (L ++ [t]):=by
 refine ⟨fun x hx=>?_,fun i a b ha hb=>?_⟩
 ·rcases List.mem_append.1 hx with hx | hx
  ·exact h.1 x hx
  ·obtain rfl:=List.mem_singleton.1 hx;exact ht
 ·by_cases h1:i + 1 < L.length
  ·rw [List.getElem?_append_left h1] at hb;rw [List.getElem?_append_left (by omega)] at ha;exact h.2 i a b ha hb
  ·have h2:i + 1 = L.length:=by
    have:=(List.getElem?_eq_some_iff.1 hb).1;simp at this;omega
   rw [h2,List.getElem?_append_right (Nat.le_refl _)] at hb;simp at hb;rw [List.getElem?_append_left (by omega)] at ha;rintro ⟨k1,k2⟩;rw [<- hb] at k2;have hl:L.getLast? = some a:=by rw [List.getLast?_eq_getElem?,show L.length - 1 = i by omega];exact ha
   exact he k2 a hl k1
theorem flush_forms {L:List TokL} {x:List UInt8} (h:FormsL L) (he:EndsL L):FormsL (flushT L x):=by
 unfold flushT;split
 ·exact h
 ·rename_i hx;exact forms_snoc h (form_chars hx) (fun _=>he)
theorem ends_snoc {L:List TokL} {t:TokL} (h:t.kind ≠ 1):EndsL (L ++ [t]):=by
 intro u hu;rw [List.getLast?_append] at hu;simp at hu;rw [<- hu];exact h
def sz1 (x:List UInt8):Nat:=if x = [] then 0 else 1
theorem flush_len (L:List TokL) (x:List UInt8):(flushT L x).length = L.length + sz1 x:=by
 unfold flushT sz1;split <;> simp
theorem scan_forms (dec:List UInt8 -> List UInt8):∀ (k:Nat) (l:List UInt8) (L:List TokL) (x:List UInt8),l.length <= k -> FormsL L -> EndsL L -> FormsL (scanL dec L x l) /\ (scanL dec L x l).length <= L.length + sz1 x + l.length:=by
 intro k
 induction k with
 | zero =>
  intro l L x hl h he;obtain rfl:l = []:=List.eq_nil_of_length_eq_zero (by omega);rw [scanL_nil];exact ⟨flush_forms h he,by rw [flush_len];simp⟩
 | succ k ih =>
  intro l L x hl h he;cases l with
  | nil =>
   rw [scanL_nil];exact ⟨flush_forms h he,by rw [flush_len];simp⟩
  | cons c r =>
   by_cases hm:0 < markN (c :: r)
   ·rw [scanL_text dec L x hm];have h1:=markN_le (c :: r);have h2:((c :: r).drop (markN (c :: r))).length = (c :: r).length - markN (c :: r):=List.length_drop;obtain ⟨a,b⟩:=ih ((c :: r).drop (markN (c :: r))) L (x ++ dec ((c :: r).take (markN (c :: r)))) (by rw [h2];omega) h he;refine ⟨a,?_⟩;have h3:sz1 (x ++ dec ((c :: r).take (markN (c :: r)))) <= sz1 x + 1:=by unfold sz1;split <;> split <;> omega
    omega
   ·have hmk:isMarkB (c :: r) = true:=markN_zero (by omega);rw [scanL_mark dec L x hmk];obtain ⟨m1,m2,m3⟩:=mark_form dec r;have hlen:(c :: r).length = r.length + 1:=rfl;have hrk:(markL dec r).2.2.length <= k:=by omega
    unfold addT;cases ho:(markL dec r).1 with
    | none =>
     have e:=m2 ho;simp only;rw [e,List.append_nil];obtain ⟨a,b⟩:=ih (markL dec r).2.2 L x hrk h he;exact ⟨a,by omega⟩
    | some t =>
     obtain ⟨f1,f2⟩:=m1 t ho;simp only;obtain ⟨a,b⟩:=ih (markL dec r).2.2 (flushT L x ++ [t]) (markL dec r).2.1 hrk (forms_snoc (flush_forms h he) f1 (fun e=>absurd e f2)) (ends_snoc f2);refine ⟨a,?_⟩
     have h3:sz1 (markL dec r).2.1 <= (markL dec r).2.1.length:=by
      unfold sz1;split
      ·omega
      ·rename_i hne;exact List.length_pos_iff.2 hne
     rw [List.length_append,flush_len] at b;simp only [List.length_cons,List.length_nil] at b;omega
theorem mark_kinds (dec:List UInt8 -> List UInt8) {c:UInt8} {r:List UInt8} (hm:isMarkB (c :: r) = true) (t:TokL) (h:(markL dec r).1 = some t):t.kind ≠ 1 /\ (t.kind = 2 -> t.name ≠ []):=by
 refine ⟨((mark_form dec r).1 t h).2,fun hk=>?_⟩
 have hrem:∀ k,(remL k).1 = some t -> False:=fun k e=>by
  injection e with e;rw [<- e] at hk;exact absurd (show (4:Nat) = 2 from hk) (by decide)
 have hlong:∀ k,(longL k).1 = some t -> False:=fun k e=>by
  unfold longL at e;split at e <;> (injection e with e;rw [<- e] at hk;exact absurd (show (4:Nat) = 2 from hk) (by decide))
 have hend:∀ k,(endL dec k).1 = some t -> False:=fun k e=>by
  unfold endL at e;split at e
  ·cases e
  ·injection e with e;rw [<- e] at hk;exact absurd (show (3:Nat) = 2 from hk) (by decide)
 unfold markL at h;split at h
 ·split at h
  ·cases h
  ·split at h
   ·exact (hend _ h).elim
   ·split at h
    ·cases h
    ·exact (hrem _ h).elim
 ·split at h
  ·exact (hlong _ h).elim
  ·exact (hrem _ h).elim
 ·exact (hrem _ h).elim
 ·rename_i h1 h2 h3;cases r with
  | nil =>
   exfalso;unfold isMarkB at hm;split at hm
   ·rename_i e;injection e with _ e;cases e
   ·cases hm
  | cons d q =>
   have hd:letterB d = true:=by
    unfold isMarkB at hm;split at hm
    ·rename_i c' r' e;injection e with e1 e2;injection e2 with e2 e3;subst e2 e3;rw [if_neg (fun e=>e.elim (fun e=>h2 _ (by rw [e])) (fun e=>h3 _ (by rw [e]))),if_neg (fun e=>h1 _ (by rw [e]))] at hm;exact hm
    ·cases hm
   have hne:nameEndB d = false:=(u8_all (p:=fun d=>letterB d = true -> nameEndB d = false) (by decide +kernel) d) hd;unfold startL at h;cases ht:tagL dec (d :: q) with
   | none=>rw [ht] at h;cases h
   | some p =>
    obtain ⟨n,A,b⟩:=p
    have hn:n ≠ []:=by
     unfold tagL at ht;cases ha:attrsLL dec [] (upL nameEndB (d :: q)).2 with
     | none=>rw [ha] at ht;cases ht
     | some p =>
      obtain ⟨B,x⟩:=p;rw [ha] at ht;injection ht with ht;injection ht with ht _;rw [<- ht];unfold upL lowL;rw [List.takeWhile_cons,hne];simp
    rw [ht] at h;simp only at h;split at h
    ·injection h with h;rw [<- h];exact hn
    ·injection h with h;rw [<- h];exact hn
def TokW (N:Nat) (t:TokL):Prop:=(t.kind = 1 -> t.text.length <= N) /\ (t.kind = 2 -> t.name ≠ [])
theorem flush_w {N:Nat} {L:List TokL} (h:∀ t ∈ L,TokW N t) {x:List UInt8} (hx:x.length <= N):∀ t ∈ flushT L x,TokW N t:=by
 unfold flushT;split
 ·exact h
 ·intro t ht;rcases List.mem_append.1 ht with ht | ht
  ·exact h t ht
  ·obtain rfl:=List.mem_singleton.1 ht;exact ⟨fun _=>hx,fun e=>absurd (show (1:Nat) = 2 from e) (by decide)⟩
theorem scan_w (dec:List UInt8 -> List UInt8) (hdec:∀ l,(dec l).length <= l.length) (N:Nat):∀ (k:Nat) (l:List UInt8) (L:List TokL) (x:List UInt8),l.length <= k -> x.length + l.length <= N -> (∀ t ∈ L,TokW N t) -> ∀ t ∈ scanL dec L x l,TokW N t:=by
 intro k
 induction k with
 | zero =>
  intro l L x hl hN h;obtain rfl:l = []:=List.eq_nil_of_length_eq_zero (by omega);rw [scanL_nil];exact flush_w h (by simpa using hN)
 | succ k ih =>
  intro l L x hl hN h;cases l with
  | nil=>rw [scanL_nil];exact flush_w h (by simpa using hN)
  | cons c r =>
   by_cases hm:0 < markN (c :: r)
   ·rw [scanL_text dec L x hm];have h1:=markN_le (c :: r);have h2:((c :: r).drop (markN (c :: r))).length = (c :: r).length - markN (c :: r):=List.length_drop;have h3:=hdec ((c :: r).take (markN (c :: r)));rw [List.length_take] at h3;exact ih _ L _ (by rw [h2];omega) (by rw [h2,List.length_append];omega) h
   ·have hmk:isMarkB (c :: r) = true:=markN_zero (by omega);rw [scanL_mark dec L x hmk];have hlen:(c :: r).length = r.length + 1:=rfl;obtain ⟨m1,m2,m3⟩:=mark_form dec r;refine ih _ _ _ (by omega) ?_ ?_
    ·unfold addT;cases ho:(markL dec r).1 with
     | none=>have:=m2 ho;simp only [this,List.append_nil];omega
     | some u=>simp only;omega
    ·unfold addT;cases ho:(markL dec r).1 with
     | none=>exact h
     | some u =>
      intro t ht;simp only at ht;rcases List.mem_append.1 ht with ht | ht
      ·exact flush_w h (by omega) t ht
      ·obtain rfl:=List.mem_singleton.1 ht;obtain ⟨k1,k2⟩:=mark_kinds dec hmk t ho;exact ⟨fun e=>absurd e k1,k2⟩
theorem scanE_w (s:ByteArray):(∀ t ∈ scanL decE [] [] s.data.toList,TokW s.size t) /\ (scanL decE [] [] s.data.toList).length <= s.size:=by
 refine ⟨scan_w decE (fun l=>decE_len _ l (Nat.le_refl _)) s.size _ s.data.toList [] [] (Nat.le_refl _) (by rw [toList_length];simp) (fun t h=>by cases h),?_⟩;have:=(scan_forms decE _ s.data.toList [] [] (Nat.le_refl _) ⟨fun t h=>(by cases h),fun i a b h=>by simp at h⟩ (fun t h=>by simp at h)).2;rw [toList_length] at this
 simpa [sz1] using this
theorem whole_first {l:List UInt8} (h:wholeN l ≠ 0):contB (l.getD 0 0) = false /\ ∀ p,0 < p -> p < wholeN l -> contB (l.getD p 0) = true:=by
 have nc:∀ a:UInt8,(a.toNat < 128 \/ 192 <= a.toNat) -> contB a = false:=fun a ha=>by
  cases hc:contB a with
  | false=>rfl
  | true=>have:=(contB_iff a).1 hc;omega
 rcases whole_cases l with e | ⟨a,r,rfl,h1,e⟩ | ⟨a,b,r,rfl,h1,h2,h3,h4,e⟩ | ⟨a,b,c,r,rfl,h1,h2,h3,h4,h5,h6,e⟩ | ⟨a,b,c,d,r,rfl,h1,h2,h3,h4,h5,h6,h7,e⟩
 ·exact absurd e h
 ·rw [e];exact ⟨nc a (.inl h1),fun p h0 h1=>by omega⟩
 ·rw [e];exact ⟨nc a (.inr h1),fun p h0 h1=>by
   obtain rfl:p = 1:=by omega
   exact h3⟩
 ·rw [e];exact ⟨nc a (.inr (by omega)),fun p h0 h1=>by
   obtain rfl | rfl:p = 1 \/ p = 2:=by omega
   ·exact h3
   ·exact h4⟩
 ·rw [e];exact ⟨nc a (.inr (by omega)),fun p h0 h1=>by
   obtain rfl | rfl | rfl:p = 1 \/ p = 2 \/ p = 3:=by omega
   ·exact h3
   ·exact h4
   ·exact h5⟩
theorem indexByte_high (l:List UInt8) (c:UInt8) (h:∀ x ∈ l,x.toNat < 128) (hc:128 <= c.toNat):Lib.indexByte l c = -1:=by
 induction l with
 | nil=>rfl
 | cons a r ih =>
  have ha:=h a (List.mem_cons_self ..)
  have hne:(a == c) = false:=by
   rw [beq_eq_false_iff_ne];rintro rfl;omega
  simp [Lib.indexByte,hne,ih (fun x hx=>h x (List.mem_cons_of_mem _ hx))]
theorem quiet_add_same {P:Program} {f:FuncId} {args:Array Value} {w:World} {a n:Nat} {v:Value}
  (h:Calls P f args (w.drewN (a + n)) fun e w'=>e = .returned v /\ w' = w.drewN (a + n)) :
  Calls P f args (w.drewN (a + n)) fun e w''=>e = .returned v /\ ∃ m,w'' = w.drewN (a + m) :=
 h.mono fun _ _ ⟨he,hm⟩=>⟨he,n,hm⟩
theorem indexRune_high (s:ByteArray) (r:Int) (w:World) (hs:s.size <= 100) (ha:s.data.toList.all (fun c=>decide (c.toNat < 128)) = true) (h1:128 <= r) (h2:r <= 2147483647) :
  Calls Tryz.prog 231 #[.string s,.int .i32 r] w fun e w'=>e = .returned (.int .i64 (-1)) /\ Below w.heap.size w w':=by
 have h3:¬ r < 128:=by omega
 have h4:0 <= r:=by omega
 by_cases he:r = 65533
 ·subst he;have HA:=hide ha;clear ha;go_enter Tryz.func231,Tryz.ntmps231;go_wp2;go_loopw [5,6] (fun _ _ wr=>∃ pos:Nat,pos <= s.size /\ wr = w.iter s pos) (fun _ _ wr=>s.size - wr.iterPos w.heap.size)
  case atStart=>exact ⟨0,Nat.zero_le _,rfl⟩
  case round =>
   obtain ⟨pos,hp,rfl⟩:=hrel
   by_cases hlt:pos < s.size
   ·obtain ⟨x,hx,hx1,hnx⟩:=next_ascii (P:=Tryz.prog) w s pos hlt HA.out;clear hx;have hne:((x.toNat:Int) == 65533) = false:=by rw [beq_eq_false_iff_ne];omega
    go_wp2;go_roundw
    case rel=>exact ⟨pos + 1,by omega,rfl⟩
    case measure=>simp;omega
   ·obtain rfl:pos = s.size:=by omega
    have hnx:=run_next_end (P:=Tryz.prog) w s s.size;go_wp2;go_ret;exact ⟨rfl,iter_below _ _ _⟩
 ·have hne:(r == 65533) = false:=by rw [beq_eq_false_iff_ne];exact he
  cases hv:Utf8.valid r with
  | false =>
   have HV:Hid (Lib.validRune r = false):=hide (by rw [show Lib.validRune r = Go.validRune r from rfl,<- validRune_eq];exact hv);clear hv he;go_enter Tryz.func231,Tryz.ntmps231;go_wp2_with fail;refine (Tryz.utf8_ValidRune r _).mono ?_;rintro e w' ⟨rfl,hw⟩;subst hw;rw [HV.out];go_wp2_with fail;go_ret;exact ⟨rfl,Below.refl _ _⟩
  | true =>
   obtain ⟨e1,e2,e3⟩:=encode_facts r hv h1;have HV:Hid (Lib.validRune r = true):=hide (by rw [show Lib.validRune r = Go.validRune r from rfl,<- validRune_eq];exact hv);clear hv he;obtain ⟨E,hE⟩:∃ E,E = Utf8.encode r:=⟨_,rfl⟩
   rw [<- hE] at e1 e2 e3
   have hcv:∀ w:World,(convert 21 9 (.int .i32 r)).run Tryz.prog w = .ok (.string E) w:=fun w=>by
    rw [hE];exact run_convert_int_string w 21 9 .i32 r (by rw [Tryz.underlying21];rfl) Tryz.underlying9
   clear hE;obtain ⟨m,hm⟩:∃ m:Nat,E.size = m + 1:=⟨E.size - 1,by omega⟩
   have hm1:m < E.size:=by omega
   have hb:128 <= (E[m]'hm1).toNat:=by
    have:∀ j (h:j < E.size),j = E.size - 1 -> 128 <= (E[j]'h).toNat:=fun j h e=>by subst e;exact e3 h
    exact this m hm1 (by omega)
   have hmm:(m:Int) < (m:Int) + 1:=by omega
   have hw:IntKind.i64.wrap ((m:Int) + 1) = (m:Int) + 1:=IntWalk.i64_in _ (by omega);clear e3
   by_cases hlt:m < s.size
   ·have hsm:(s[m]'hlt).toNat < 128:=by
     have:=List.all_eq_true.1 ha s[m] (by rw [<- Array.mem_def];exact Array.getElem_mem (by exact hlt))
     simpa using this
    have hne2:((s[m].toNat:Int) != (E[m].toNat:Int)) = true:=by
     rw [bne_iff_ne];omega
    have hix:Lib.indexByte (s.extract (m + 1) s.size).data.toList (E[m].toNat:Int).toNat.toUInt8 = -1:=by
     refine indexByte_high _ _ (fun x hx=>?_) (by simp;exact hb);have:=List.all_eq_true.1 ha x (mem_extract hx)
     simpa using this
    have HIX:=hide hix;have o0:(0:Int) <= m:=by omega
    have o1:(m:Int) + 1 <= s.size:=by omega
    have o3:(0:Int) <= (m:Int) + 1:=by omega
    have o4:((m:Int) + 1).toNat = m + 1:=by omega
    clear ha hb hix;go_enter Tryz.func231,Tryz.ntmps231;go_wp2_with fail;refine (Tryz.utf8_ValidRune r _).mono ?_;rintro e w' ⟨rfl,hw⟩;subst hw;rw [HV.out];go_wp2_with fail;go_step3;go_wp2;go_loop [9,10,11,12] (fun i f _ _=>i = .int .i64 m /\ f = .int .i64 0) (fun _ _ _ _=>0)
    case atStart=>exact ⟨rfl,rfl⟩
    case round =>
     obtain ⟨rfl,rfl⟩:=hrel;go_wp2;go_step3;go_wp2;go_quiet (fail);go_wp2;go_quiet ((go_at_call 205;exact quiet_add_same (Tryz.strings_IndexByte _ _ _)));rw [HIX.out];go_wp2;simp +zetaDelta only [Exit.noGoto_ret,go_sem];go_ret;exact ⟨rfl,⟨rfl,rfl,rfl,Nat.le_refl _,fun _ _=>rfl⟩⟩
   ·have o4:((m:Int) + 1).toNat = m + 1:=by omega
    clear ha hb;go_enter Tryz.func231,Tryz.ntmps231;go_wp2_with fail;refine (Tryz.utf8_ValidRune r _).mono ?_;rintro e w' ⟨rfl,hw⟩;subst hw;rw [HV.out];go_wp2_with fail;go_step3;go_wp2;go_loop [9,10,11,12] (fun i f _ _=>i = .int .i64 m /\ f = .int .i64 0) (fun _ _ _ _=>0)
    case atStart=>exact ⟨rfl,rfl⟩
    case round =>
     obtain ⟨rfl,rfl⟩:=hrel;go_wp2
     try simp +zetaDelta only [Exit.noGoto_ret,go_sem]
     go_ret;exact ⟨rfl,Below.refl _ _⟩
theorem decode_high_or (s:ByteArray) (pos:Nat) (h:pos < s.size):(s[pos].toNat < 128 /\ Utf8.decode s pos = (s[pos].toNat,1)) \/ (128 <= s[pos].toNat /\ 128 <= (Utf8.decode s pos).1 /\ 1 <= (Utf8.decode s pos).2):=by
 by_cases ha:s[pos].toNat < 128
 ·refine .inl ⟨ha,?_⟩;simp only [Utf8.decode,get_at s pos h,ha,if_true]
 ·exact .inr ⟨by omega,decode_high s pos h (by omega)⟩
theorem not_contains_high {l:List UInt8} (h:l.all (fun c=>decide (c.toNat < 128)) = true) {c:UInt8} (hc:128 <= c.toNat):l.contains c = false:=by
 cases hm:l.contains c with
 | false=>rfl
 | true =>
  have:=List.all_eq_true.1 h c (by simpa using hm);have h2:c.toNat < 128:=by simpa using this
  omega
theorem decode_span (s:ByteArray) (pos:Nat) (h:pos < s.size) (ha:128 <= s[pos].toNat):∀ j,pos <= j -> j < pos + (Utf8.decode s pos).2 -> ∀ b,s.data.toList[j]? = some b -> 128 <= b.toNat:=by
 intro j h1 h2 b hb;rcases Nat.eq_or_lt_of_le h1 with rfl | h1
 ·rw [List.getElem?_eq_getElem (by rw [toList_length];exact h)] at hb;rw [<- Option.some.inj hb];exact ha
 ·have hj:j < s.size:=by have:=(List.getElem?_eq_some_iff.1 hb).1;rwa [toList_length] at this
  have e:=decode_decL s pos h;have hsp:=decL_spec (s.data.toList.drop pos) (by rw [drop_cons s pos h];simp);rw [e,hsp.2.1] at h2
  by_cases hz:wholeN (s.data.toList.drop pos) = 0
  ·rw [vStep_zero hz] at h2;simp at h2;omega
  ·rw [vStep_pos rfl hz] at h2;simp only at h2;have hw:=whole_first hz;have:=hw.2 (j - pos) (by omega) (by omega);rw [List.getD_eq_getElem?_getD,List.getElem?_drop,Nat.add_sub_cancel' (by omega),hb] at this;have:=(contB_iff b).1 this;omega
theorem decode_end (s:ByteArray) (pos:Nat) (h:pos < s.size):pos + (Utf8.decode s pos).2 <= s.size:=by
 have hne:s.data.toList.drop pos ≠ []:=by rw [drop_cons s pos h];simp
 have hsp:=decL_spec _ hne;have hst:=vStep_pos' _ hne;rw [List.length_drop,toList_length] at hst;rw [decode_decL s pos h,hsp.2.1];omega
theorem noAny_step {s:ByteArray} {cs:List UInt8} {pos n:Nat} (h:Lib.NoAny s.data.toList cs pos) (hn:∀ j,pos <= j -> j < pos + n -> ∀ b,s.data.toList[j]? = some b -> cs.contains b = false):Lib.NoAny s.data.toList cs (pos + n):=by
 intro j b hj hb;rcases Nat.lt_or_ge j pos with h1 | h1
 ·exact h j b h1 hb
 ·exact hn j h1 hj b hb
theorem indexAny_short (s cs:ByteArray) (w:World) (h2:2 <= cs.size) (hcs:cs.size <= 100) (h8:s.size <= 8) (ha:cs.data.toList.all (fun c=>decide (c.toNat < 128)) = true) :
  Calls Tryz.prog 197 #[.string s,.string cs] w fun e w'=>e = .returned (.int .i64 (Lib.indexAny s.data.toList cs.data.toList)) /\ Below w.heap.size w w':=by
 have hemp:cs.toList.isEmpty = false:=by
  rw [Lib.toList_data];cases h:cs.data.toList with
  | nil=>have:=Lib.size_eq cs;rw [h,List.length_nil] at this;omega
  | cons _ _=>rfl
 have hn1:((cs.size:Int) == 1) = false:=beq_eq_false_iff_ne.2 (by omega);have h8z:decide ((8:Int) < (s.size:Int)) = false:=decide_eq_false (by omega);have HA:=hide ha;clear ha;go_enter Tryz.func197,Tryz.ntmps197;go_wp2_with fail;refine (Tryz.strings_shouldUseASCIISet _ _).mono ?_;rintro e w1 ⟨rfl,hw1⟩;subst hw1;rw [h8z];go_wp2_with fail;have hit:(w1.iter s 0).heap[w1.heap.size]? = some (Obj.stringIter s 0):=heap_alloc_new w1 _;have hb0:Below w1.heap.size w1 (w1.iter s 0):=iter_below w1 s 0;have hg0:w1.heap.size < (w1.iter s 0).heap.size:=(Array.getElem?_eq_some_iff.1 hit).1;go_loopw [9,10] (fun _ _ wr=>∃ pos:Nat,pos <= s.size /\ wr.heap[w1.heap.size]? = some (Obj.stringIter s pos) /\ Below w1.heap.size w1 wr /\ Lib.NoAny s.data.toList cs.data.toList pos) (fun _ _ wr=>s.size - wr.iterPos w1.heap.size)
 case atStart=>exact ⟨0,Nat.zero_le _,hit,hb0,Lib.NoAny.zero _ _⟩
 case round =>
  obtain ⟨pos,hpos,hk,hb,hno⟩:=hrel;have HK:=hide hk;have HB:=hide hb;have HN:=hide hno;have hsz:w1.heap.size < wr.heap.size:=(Array.getElem?_eq_some_iff.1 hk).1;clear hk hb hno
  by_cases hlt:pos < s.size
  ·have hnx:=fun ty=>Lib.run_next_any_at (P:=Tryz.prog) wr w1.heap.size s pos ty HK.out hlt
   have hle:=decode_le s pos;rcases decode_high_or s pos hlt with ⟨hx,hdec⟩ | ⟨hx,hd1,hd2⟩
   ·rw [hdec] at hnx;have hg:s.data.toList[pos]? = some s[pos]:=by rw [List.getElem?_eq_getElem (by rw [toList_length];exact hlt)];rfl
    have hcon:=Lib.contains_iff_indexByte cs.data.toList s[pos];have hback:((s[pos].toNat:Int)).toNat.toUInt8 = s[pos]:=by simp
    have HI:=hide (Lib.iterAt_heap wr w1.heap.size s pos (pos + 1) HK.out);have HB1:=hide (Lib.below_iterAt HB.out (Nat.le_refl _) s (pos + 1));have HG:=hide hg;clear hdec hg;cases hin:cs.data.toList.contains s[pos]
    ·rw [hin] at hcon;have hlt2:¬ ((0:Int) <= Lib.indexByte cs.data.toList s[pos]):=of_decide_eq_false hcon.symm;have HIN:=hide hin;clear hcon hin;go_wp2_with fail;refine (Tryz.strings_IndexRune_ascii _ _ _ (by omega) (by omega)).mono ?_;rintro e w2 ⟨rfl,hw2⟩;subst hw2;rw [hback];go_wp2_with fail;go_roundw
     case rel=>exact ⟨pos + 1,by omega,HI.out,HB1.out,HN.out.succ HG.out HIN.out⟩
     case measure =>
      rw [show World.iterPos (World.iterAt wr w1.heap.size s (pos + 1)) w1.heap.size = pos + 1 by unfold World.iterPos;rw [HI.out],show World.iterPos wr w1.heap.size = pos by unfold World.iterPos;rw [HK.out]];omega
    ·rw [hin] at hcon;have hge:(0:Int) <= Lib.indexByte cs.data.toList s[pos]:=of_decide_eq_true hcon.symm;have HIN:=hide hin;clear hcon hin;go_wp2_with fail;refine (Tryz.strings_IndexRune_ascii _ _ _ (by omega) (by omega)).mono ?_;rintro e w2 ⟨rfl,hw2⟩;subst hw2;rw [hback];go_wp2_with fail;go_ret;exact ⟨ret_int (by rw [Lib.indexAny_hit HN.out HG.out HIN.out]),HB1.out⟩
   ·have hsp:=decode_span s pos hlt hx;have hle2:=decode_end s pos hlt;generalize Utf8.decode s pos = dl at hnx hd1 hd2 hle hsp hle2;obtain ⟨r,n⟩:=dl;simp only at hnx hd1 hd2 hle hsp hle2;have HI:=hide (Lib.iterAt_heap wr w1.heap.size s pos (pos + n) HK.out);have HB1:=hide (Lib.below_iterAt HB.out (Nat.le_refl _) s (pos + n));have HN2:=hide (noAny_step HN.out fun j h1 h2 b hb=>not_contains_high HA.out (hsp j h1 h2 b hb));clear hsp;go_wp2_with fail;refine (indexRune_high cs (r:Int) _ (by omega) HA.out (by omega) (by omega)).mono ?_;rintro e w2 ⟨rfl,hb2⟩;have HI2:=hide ((hb2.block _ (by rw [Lib.iterAt_size];exact hsz)).trans HI.out);have HB2:=hide (HB1.out.trans (hb2.mono (by rw [Lib.iterAt_size];exact HB.out.size)));clear hb2;go_wp2_with fail;go_roundw
    case rel=>exact ⟨pos + n,by omega,HI2.out,HB2.out,HN2.out⟩
    case measure =>
     have e1:World.iterPos w2 w1.heap.size = pos + n:=by unfold World.iterPos;rw [HI2.out]
     have e2:World.iterPos wr w1.heap.size = pos:=by unfold World.iterPos;rw [HK.out]
     rw [e1,e2];omega
  ·have hnx:=fun ty=>Lib.run_next_end_at (P:=Tryz.prog) wr w1.heap.size s pos ty HK.out hlt
   go_wp2;go_ret;exact ⟨ret_int (by rw [Lib.indexAny_none (by rw [<- Lib.size_eq];exact fun j b hj=>HN.out j b (by omega))]),HB.out⟩
theorem indexAny_any (s cs:ByteArray) (w:World) (h2:2 <= cs.size) (hcs:cs.size <= 100) (hs:s.size <= 16777216) (ha:cs.data.toList.all (fun c=>decide (c.toNat < 128)) = true) :
  Calls Tryz.prog 197 #[.string s,.string cs] w fun e w'=>e = .returned (.int .i64 (Lib.indexAny s.data.toList cs.data.toList)) /\ Below w.heap.size w w':=by
 by_cases h8:s.size <= 8
 ·exact indexAny_short s cs w h2 hcs h8 ha
 ·exact (Tryz.strings_IndexAny_long (zero_of_info (n:=256) (by kernel_rfl)).1 s cs w h2 (by omega) (by omega) (by omega) (ascii_of_all ha)).mono fun e w' ⟨he,hw⟩=>⟨he,by rw [hw];exact ((Below.refl _ _).alloc (Nat.le_refl _) _).alloc (by simp) _⟩
theorem letterW_any (c:UInt8) (w:World) :
  Calls Tryz.prog 120 #[.int .u8 c.toNat] w fun e w'=>e = .returned (.bool (letterB c)) /\ w = w':=by
 have hc:=byte_lt c;rcases letter_case c with ⟨c1,c2,e⟩ | ⟨c1,c2,c3,e⟩ | ⟨c1,c2,e⟩ | ⟨c1,c2,c3,e⟩ | ⟨c1,c2,e⟩
 all_goals
  rw [e];clear e
  go_enter Tryz.func120,Tryz.ntmps120;go_wp2;go_ret;exact ⟨ret_bool (by first | rfl | (simp;omega)),rfl⟩
theorem indexAny_up (cs:List UInt8):∀ l:List UInt8,(Lib.indexAny l cs = -1 /\ l.takeWhile (fun c=>!cs.contains c) = l /\ l.dropWhile (fun c=>!cs.contains c) = []) \/
  ∃ o:Nat,Lib.indexAny l cs = o /\ o < l.length /\ l.takeWhile (fun c=>!cs.contains c) = l.take o /\ l.dropWhile (fun c=>!cs.contains c) = l.drop o
 | []=>.inl ⟨rfl,rfl,rfl⟩
 | c :: r=>by
  cases hc:cs.contains c with
  | true=>exact .inr ⟨0,by simp only [Lib.indexAny,hc,if_true];rfl,Nat.succ_pos _,by simp only [List.takeWhile_cons,hc,Bool.not_true];rfl,by simp only [List.dropWhile_cons,hc,Bool.not_true];rfl⟩
  | false =>
   rcases indexAny_up cs r with ⟨h1,h2,h3⟩ | ⟨o,h1,h2,h3,h4⟩
   ·exact .inl ⟨by simp only [Lib.indexAny,hc,h1];rfl,by simp only [List.takeWhile_cons,hc,Bool.not_false,if_true,h2],by simp only [List.dropWhile_cons,hc,Bool.not_false,if_true,h3]⟩
   ·have hne:((o:Int) == -1) = false:=by rw [beq_eq_false_iff_ne];omega
    exact .inr ⟨o + 1,by simp only [Lib.indexAny,hc,h1];rw [if_neg Bool.false_ne_true,if_neg (by rw [hne];exact Bool.false_ne_true)];rfl,Nat.succ_lt_succ h2,by simp only [List.takeWhile_cons,hc,Bool.not_false,if_true,h3,List.take_succ_cons],by simp only [List.dropWhile_cons,hc,Bool.not_false,if_true,h4,List.drop_succ_cons]⟩
def upV (x:List UInt8 × List UInt8):Value:=.tuple #[.string (str x.1),.string (str x.2)]
theorem upTo0_any (s cs:ByteArray) (p:UInt8 -> Bool) (w:World) (hp:∀ c,cs.data.toList.contains c = p c) (hs:s.size <= 16777216) (h2:2 <= cs.size) (hcs:cs.size <= 100) (ha:cs.data.toList.all (fun c=>decide (c.toNat < 128)) = true) :
  Calls Tryz.prog 173 #[.string s,.int .i64 0,.string cs] w fun e w'=>e = .returned (upV (upL p s.data.toList)) /\ Below w.heap.size w w':=by
 have HI:=hide (fun w2=>indexAny_any s cs w2 h2 hcs hs ha)
 have hup:upL p s.data.toList = (s.data.toList.takeWhile (fun c=>!cs.data.toList.contains c),s.data.toList.dropWhile (fun c=>!cs.data.toList.contains c)):=by
  unfold upL;rw [show (fun c=>!p c) = (fun c=>!cs.data.toList.contains c) from funext fun c=>by rw [hp]]
 rcases indexAny_up cs.data.toList s.data.toList with ⟨i1,i2,i3⟩ | ⟨o,i1,i2,i3,i4⟩
 ·rw [i1] at HI;have HR:Hid (upV (upL p s.data.toList) = .tuple #[.string s,.string ⟨#[]⟩]):=hide (by rw [hup,i2,i3];unfold upV;rw [str_of];rfl);clear hup i1 i2 i3 ha hp;go_enter Tryz.func173,Tryz.ntmps173;go_wp2_with fail;refine (HI.out _).mono ?_;rintro e w1 ⟨rfl,hb1⟩;have HB:=hide hb1;clear hb1;go_wp2_with fail;go_ret2;exact ⟨by rw [HR.out];rfl,HB.out⟩
 ·rw [i1] at HI;rw [toList_length] at i2
  have HR:Hid (upV (upL p s.data.toList) = .tuple #[.string (s.extract 0 o),.string (s.extract o s.size)]):=hide (by
   rw [hup,i3,i4];unfold upV;rw [show str (s.data.toList.take o) = s.extract 0 o from ext_list (by rw [str_toList,extract_list,List.drop_zero]),show str (s.data.toList.drop o) = s.extract o s.size from ext_list (by rw [str_toList,extract_end])])
  have q0:(0:Int) <= o:=by omega
  have q1:(o:Int) <= s.size:=by omega
  have q2:IntKind.i64.wrap (o:Int) = (o:Int):=IntWalk.i64_in _ (by omega);have q3:IntKind.i64.wrap (0 + (o:Int)) = (o:Int):=by rw [Int.zero_add];exact q2
  clear hup i1 i2 i3 i4 ha hp;go_enter Tryz.func173,Tryz.ntmps173;go_wp2_with fail;refine (HI.out _).mono ?_;rintro e w1 ⟨rfl,hb1⟩;have HB:=hide hb1;clear hb1;go_wp2_with fail;go_quiet (fail)
  try go_wp2_with fail
  go_ret2;exact ⟨by rw [HR.out];rfl,HB.out.trans ⟨rfl,rfl,rfl,Nat.le_refl _,fun _ _=>rfl⟩⟩
def up1L (p:UInt8 -> Bool) (l:List UInt8):List UInt8 × List UInt8:=(l.take 1 ++ (upL p (l.drop 1)).1,(upL p (l.drop 1)).2)
theorem upTo1_any (s cs:ByteArray) (p:UInt8 -> Bool) (w:World) (hp:∀ c,cs.data.toList.contains c = p c) (hs:s.size <= 16777216) (h1:1 <= s.size) (h2:2 <= cs.size) (hcs:cs.size <= 100) (ha:cs.data.toList.all (fun c=>decide (c.toNat < 128)) = true) :
  Calls Tryz.prog 173 #[.string s,.int .i64 1,.string cs] w fun e w'=>e = .returned (upV (up1L p s.data.toList)) /\ Below w.heap.size w w':=by
 have hez:(s.extract 1 s.size).size <= 16777216:=by rw [ByteArray.size_extract];omega
 have hel:(s.extract 1 s.size).data.toList = s.data.toList.drop 1:=extract_end s 1;have HI:=hide (fun w2=>indexAny_any (s.extract 1 s.size) cs w2 h2 hcs hez ha);rw [hel] at HI
 have hup:upL p (s.data.toList.drop 1) = ((s.data.toList.drop 1).takeWhile (fun c=>!cs.data.toList.contains c),(s.data.toList.drop 1).dropWhile (fun c=>!cs.data.toList.contains c)):=by
  unfold upL;rw [show (fun c=>!p c) = (fun c=>!cs.data.toList.contains c) from funext fun c=>by rw [hp]]
 have r0:(1:Int) <= s.size:=by omega
 rcases indexAny_up cs.data.toList (s.data.toList.drop 1) with ⟨i1,i2,i3⟩ | ⟨o,i1,i2,i3,i4⟩
 ·rw [i1] at HI
  have HR:Hid (upV (up1L p s.data.toList) = .tuple #[.string s,.string ⟨#[]⟩]):=hide (by
   unfold up1L;rw [hup,i2,i3];unfold upV;rw [List.take_append_drop,str_of];rfl)
  clear hup i1 i2 i3 ha hp hel hez;go_enter Tryz.func173,Tryz.ntmps173;go_wp2_with fail;refine (HI.out _).mono ?_;rintro e w1 ⟨rfl,hb1⟩;have HB:=hide hb1;clear hb1;go_wp2_with fail;go_ret2;exact ⟨by rw [HR.out];rfl,HB.out⟩
 ·rw [i1] at HI;rw [List.length_drop,toList_length] at i2
  have HR:Hid (upV (up1L p s.data.toList) = .tuple #[.string (s.extract 0 (1 + o)),.string (s.extract (1 + o) s.size)]):=hide (by
   unfold up1L;rw [hup,i3,i4];unfold upV;rw [show str (s.data.toList.take 1 ++ (s.data.toList.drop 1).take o) = s.extract 0 (1 + o) from ext_list (by rw [str_toList,extract_list,List.drop_zero,List.take_add]),show str ((s.data.toList.drop 1).drop o) = s.extract (1 + o) s.size from ext_list (by rw [str_toList,extract_end,List.drop_drop])])
  have q0:(0:Int) <= 1 + (o:Int):=by omega
  have q1:1 + (o:Int) <= s.size:=by omega
  have q2:IntKind.i64.wrap (1 + (o:Int)) = 1 + (o:Int):=IntWalk.i64_in _ (by omega);have q3:(1 + (o:Int)).toNat = 1 + o:=by omega
  have q4:(0:Int) <= o:=by omega
  clear hup i1 i2 i3 i4 ha hp hel hez;go_enter Tryz.func173,Tryz.ntmps173;go_wp2_with fail;refine (HI.out _).mono ?_;rintro e w1 ⟨rfl,hb1⟩;have HB:=hide hb1;clear hb1;go_wp2_with fail;go_quiet (fail)
  try go_wp2_with fail
  go_ret2;exact ⟨by rw [HR.out];rfl,HB.out.trans ⟨rfl,rfl,rfl,Nat.le_refl _,fun _ _=>rfl⟩⟩
theorem isMark_len {l:List UInt8} (h:l.length < 2):isMarkB l = false:=by
 match l,h with
 | [],_=>rfl
 | [a],_=>unfold isMarkB;split <;> first | rfl | (rename_i e;simp at e)
theorem isMark_head {a:UInt8} {r:List UInt8} (h:a ≠ 60):isMarkB (a :: r) = false:=by
 unfold isMarkB;split
 ·rename_i e;exact absurd (List.cons.inj e).1 h
 ·rfl
theorem isMark_mk (c:UInt8) (r:List UInt8):isMarkB (60 :: c :: r) = if c = 33 \/ c = 63 then true else if c = 47 then !r.isEmpty else letterB c:=by unfold isMarkB;rfl
theorem hasPrefix_60 (a:UInt8) (r:List UInt8):Lib.hasPrefix (a :: r) [60] = decide (a = 60):=by
 unfold Lib.hasPrefix;show ((60 == a) && true) = _
 rw [Bool.and_true]
 by_cases h:a = 60
 ·subst h;rfl
 ·rw [decide_eq_false h];exact beq_false_of_ne (fun e=>h e.symm)
theorem isMark_any (s:ByteArray) (w:World) (hs:s.size <= 16777216) :
  Calls Tryz.prog 115 #[.string s] w fun e w'=>e = .returned (.bool (isMarkB s.data.toList)) /\ w = w':=by
 have hlen:=toList_length s
 by_cases h2:s.size < 2
 ·have HR:=hide (isMark_len (l:=s.data.toList) (by rw [hlen];exact h2));clear hlen;go_enter Tryz.func115,Tryz.ntmps115;go_wp2_with fail
  all_goals first | (exact absurd h2 ‹_›) | skip
  go_ret;exact ⟨ret_bool HR.out.symm,rfl⟩
 ·have h0:0 < s.size:=by omega
  have h1:1 < s.size:=by omega
  have e0:=drop_cons s 0 h0;rw [List.drop_zero] at e0;have e1:=drop_cons s 1 h1;have hl:s.data.toList = s[0] :: s[1] :: s.data.toList.drop 2:=by rw [<- e1];exact e0
  have n2:¬ s.size < 2:=h2
  by_cases ha:s[0] = 60
  ·have HP:Hid (Lib.hasPrefix s.data.toList (⟨#[60]⟩:ByteArray).data.toList = true):=hide (by
    show Lib.hasPrefix s.data.toList [60] = true
    rw [hl,hasPrefix_60];exact decide_eq_true ha)
   have hmk:isMarkB s.data.toList = if s[1] = 33 \/ s[1] = 63 then true else if s[1] = 47 then !(s.data.toList.drop 2).isEmpty else letterB s[1]:=by
    conv=>lhs;rw [hl,ha]
    exact isMark_mk _ _
   have hc256:=byte_lt s[1]
   by_cases h33:s[1] = 33
   ·have t33:((s[1].toNat:Int) == 33) = true:=tT 33 h33 (by omega);have HR:Hid (isMarkB s.data.toList = true):=hide (by rw [hmk,if_pos (.inl h33)]);clear hmk hl e0 e1 hlen ha;go_enter Tryz.func115,Tryz.ntmps115;go_wp2_with fail;refine (Tryz.strings_HasPrefix s _ _).mono ?_;rintro e w1 ⟨rfl,hw⟩;subst hw;rw [HP.out];go_wp2_with fail;go_ret;exact ⟨ret_bool HR.out.symm,rfl⟩
   ·have t33:((s[1].toNat:Int) == 33) = false:=tF 33 h33 (by omega)
    by_cases h63:s[1] = 63
    ·have t63:((s[1].toNat:Int) == 63) = true:=tT 63 h63 (by omega);have HR:Hid (isMarkB s.data.toList = true):=hide (by rw [hmk,if_pos (.inr h63)]);clear hmk hl e0 e1 hlen ha;go_enter Tryz.func115,Tryz.ntmps115;go_wp2_with fail;refine (Tryz.strings_HasPrefix s _ _).mono ?_;rintro e w1 ⟨rfl,hw⟩;subst hw;rw [HP.out];go_wp2_with fail;go_ret;exact ⟨ret_bool HR.out.symm,rfl⟩
    ·have t63:((s[1].toNat:Int) == 63) = false:=tF 63 h63 (by omega);rw [if_neg (by rintro (h | h);exact h33 h;exact h63 h)] at hmk
     by_cases h47:s[1] = 47
     ·have t47:((s[1].toNat:Int) == 47) = true:=tT 47 h47 (by omega);rw [if_pos h47] at hmk
      have HR:Hid (isMarkB s.data.toList = decide ((2:Int) < s.size)):=hide (by
       rw [hmk];have hd:(s.data.toList.drop 2).length = s.size - 2:=by rw [List.length_drop,hlen]
       cases hdl:s.data.toList.drop 2 with
       | nil=>rw [hdl] at hd;exact (decide_eq_false (by simp at hd;omega)).symm
       | cons a r=>rw [hdl] at hd;exact (decide_eq_true (by simp at hd;omega)).symm)
      clear hmk hl e0 e1 hlen ha;go_enter Tryz.func115,Tryz.ntmps115;go_wp2_with fail;refine (Tryz.strings_HasPrefix s _ _).mono ?_;rintro e w1 ⟨rfl,hw⟩;subst hw;rw [HP.out];go_wp2_with fail;go_ret;exact ⟨ret_bool (by rw [HR.out]),rfl⟩
     ·have t47:((s[1].toNat:Int) == 47) = false:=tF 47 h47 (by omega);rw [if_neg h47] at hmk;have HR:=hide hmk;clear hmk hl e0 e1 hlen ha;go_enter Tryz.func115,Tryz.ntmps115;go_wp2_with fail;refine (Tryz.strings_HasPrefix s _ _).mono ?_;rintro e w1 ⟨rfl,hw⟩;subst hw;rw [HP.out];go_wp2_with fail;refine (letterW_any _ _).mono ?_;rintro e w1 ⟨rfl,rfl⟩;rw [<- HR.out];go_wp2_with fail;go_ret;exact ⟨rfl,rfl⟩
  ·have HP:Hid (Lib.hasPrefix s.data.toList (⟨#[60]⟩:ByteArray).data.toList = false):=hide (by
    show Lib.hasPrefix s.data.toList [60] = false
    rw [hl,hasPrefix_60];exact decide_eq_false ha)
   have HR:Hid (isMarkB s.data.toList = false):=hide (by rw [hl];exact isMark_head ha);clear hl e0 e1 hlen ha;go_enter Tryz.func115,Tryz.ntmps115;go_wp2_with fail;refine (Tryz.strings_HasPrefix s _ _).mono ?_;rintro e w1 ⟨rfl,hw⟩;subst hw;rw [HP.out];go_wp2_with fail;go_ret;exact ⟨ret_bool HR.out.symm,rfl⟩
theorem firstMark_any (s:ByteArray) (w:World) (hs:s.size <= 16777216) :
  Calls Tryz.prog 81 #[.string s] w fun e w'=>e = .returned (.int .i64 (markN s.data.toList:Nat)) /\ w = w':=by
 have hlen:=toList_length s;go_enter Tryz.func81,Tryz.ntmps81;go_wp2_with fail;go_loop [6] (fun i=>∃ k:Nat,k <= s.size /\ i = .int .i64 k /\ Hid (markN s.data.toList = k + markN (s.data.toList.drop k))) (fun i=>s.size - (intOf i).toNat)
 case atStart=>exact ⟨0,Nat.zero_le _,rfl,hide (by rw [List.drop_zero,Nat.zero_add])⟩
 case round =>
  obtain ⟨k,hk,rfl,HM⟩:=hrel
  by_cases hlt:k < s.size
  ·have hd:=drop_cons s k hlt;have hel:(s.extract k s.size).data.toList = s.data.toList.drop k:=extract_end s k;have HI:=hide (isMark_any (s.extract k s.size) w (by rw [ByteArray.size_extract];omega));rw [hel] at HI;cases hm:isMarkB (s.data.toList.drop k) with
   | true =>
    rw [hm] at HI
    have HR:Hid (markN s.data.toList = k):=hide (by
     rw [HM.out,hd];rw [hd] at hm;unfold markN;rw [if_pos hm,Nat.add_zero])
    clear hd hel hm hlen;go_wp2_with fail;refine HI.out.mono ?_;rintro e w1 ⟨rfl,rfl⟩;go_wp2_with fail;go_ret;exact ⟨ret_int (by rw [HR.out]),rfl⟩
   | false =>
    rw [hm] at HI
    have HM2:Hid (markN s.data.toList = (k + 1) + markN (s.data.toList.drop (k + 1))):=hide (by
     rw [HM.out,hd];rw [hd] at hm
     conv=>lhs;unfold markN
     rw [if_neg (by rw [hm];exact Bool.false_ne_true)];omega)
    clear hd hel hm hlen;go_wp2_with fail;refine HI.out.mono ?_;rintro e w1 ⟨rfl,rfl⟩;go_wp2_with fail;go_round
    case rel=>exact ⟨k + 1,by omega,by go_num,HM2⟩
    case measure=>simp [intOf];omega
  ·obtain rfl:k = s.size:=by omega
   have HR:Hid (markN s.data.toList = s.size):=hide (by
    rw [HM.out,List.drop_eq_nil_of_le (by rw [hlen];exact Nat.le_refl _)];rfl)
   clear hlen;go_wp2_with fail;go_ret;exact ⟨ret_int (by rw [HR.out]),rfl⟩
theorem baList (b:ByteArray):b.toList = b.data.toList:=by
 conv=>lhs;rw [<- str_of b]
 exact str_list _
theorem ba_ne {a b:ByteArray} (h:a ≠ b):(a.toList == b.toList) = false:=by
 refine beq_false_of_ne (fun e=>h ?_);rw [baList,baList] at e;rw [<- str_of a,e,str_of]
theorem rawEnd_not {n l:List UInt8} (h:Lib.hasPrefix l [60,47] = false):rawEndB n l = false:=by
 unfold rawEndB;split
 ·simp [Lib.hasPrefix] at h
 ·rfl
theorem rawEnd_yes {l:List UInt8} (h:Lib.hasPrefix l [60,47] = true):∃ r,l = 60 :: 47 :: r:=by
 unfold Lib.hasPrefix at h;obtain ⟨r,hr⟩:=List.isPrefixOf_iff_prefix.1 h;exact ⟨r,hr.symm⟩
theorem rawEnd_mk (n r:List UInt8):rawEndB n (60 :: 47 :: r) = (decide (n.length < r.length) && (lowL (r.take n.length) == n && nameEndB (r.getD n.length 0))):=by unfold rawEndB;rfl
theorem idxHas (c:UInt8):∀ l:List UInt8,decide (0 <= Lib.indexByte l c) = l.contains c
 | []=>rfl
 | b :: l=>by
  have ih:=idxHas c l;unfold Lib.indexByte
  by_cases h:b = c
  ·subst h;simp
  ·simp only [List.contains_cons];rw [beq_false_of_ne (fun e:c = b=>h e.symm),Bool.false_or,<- ih];have hb:(b == c) = false:=beq_false_of_ne h;simp only [hb]
   by_cases h2:Lib.indexByte l c = -1
   ·simp [h2]
   ·have:(Lib.indexByte l c == -1) = false:=beq_false_of_ne h2;simp only [this];apply Bool.eq_iff_iff.2;simp only [decide_eq_true_eq,Bool.false_eq_true,if_false];omega
theorem nameEnd_index (c:UInt8):decide (0 <= Lib.indexByte (⟨#[32,9,10,12,13,47,62]⟩:ByteArray).data.toList c) = nameEndB c:=by
 show decide (0 <= Lib.indexByte [32,9,10,12,13,47,62] c) = nameEndB c
 rw [idxHas];unfold nameEndB whB;simp only [List.contains_cons,List.contains_nil,Bool.or_false,Bool.or_assoc]
theorem isRawEnd_any (s n:ByteArray) (w:World) (hs:s.size <= 16777216) (hn:n.size <= 16777216) :
  Calls Tryz.prog 178 #[.string s,.string n] w fun e w'=>e = .returned (.bool (rawEndB n.data.toList s.data.toList)) /\ Below w.heap.size w w':=by
 cases hp:Lib.hasPrefix s.data.toList [60,47] with
 | false =>
  have HR:Hid (rawEndB n.data.toList s.data.toList = false):=hide (rawEnd_not hp);have HP:Hid (Lib.hasPrefix s.data.toList (⟨#[60,47]⟩:ByteArray).data.toList = false):=hide hp;clear hp;go_enter Tryz.func178,Tryz.ntmps178;go_wp2_with fail;refine (Tryz.strings_CutPrefix s _ _).mono ?_;rintro e w1 ⟨rfl,hw⟩;subst hw;rw [HP.out];go_wp2_with fail;go_ret;exact ⟨ret_bool HR.out.symm,Below.refl _ _⟩
 | true =>
  obtain ⟨r,hr⟩:=rawEnd_yes hp;obtain ⟨T,hT⟩:∃ T:ByteArray,T = str r:=⟨_,rfl⟩
  have HP:Hid (Lib.hasPrefix s.data.toList (⟨#[60,47]⟩:ByteArray).data.toList = true):=hide hp
  have HT:Hid ((⟨(Lib.trimPrefix s.data.toList (⟨#[60,47]⟩:ByteArray).data.toList).toArray⟩:ByteArray) = T):=hide (by
   rw [hT];unfold Lib.trimPrefix;rw [show (⟨#[60,47]⟩:ByteArray).data.toList = [60,47] from rfl,hp,hr];rfl)
  have hTl:T.data.toList = r:=by rw [hT,str_toList]
  have hTs:T.size = r.length:=by rw [hT,str_size]
  have hrl:r.length <= 16777216:=by
   have:=congrArg List.length hr;rw [toList_length] at this;simp at this;omega
  have hmk:=(congrArg (rawEndB n.data.toList) hr).trans (rawEnd_mk _ _);rw [toList_length] at hmk
  by_cases hle:r.length <= n.size
  ·have g1:T.size <= n.size:=by rw [hTs];exact hle
   have HR:Hid (rawEndB n.data.toList s.data.toList = false):=hide (by rw [hmk,decide_eq_false (by omega)];rfl);clear hp hr hT hTl hTs hmk hrl;go_enter Tryz.func178,Tryz.ntmps178;go_wp2_with fail;refine (Tryz.strings_CutPrefix s _ _).mono ?_;rintro e w1 ⟨rfl,hw⟩;subst hw;rw [HP.out,HT.out];go_wp2_with fail
   all_goals first | (exact absurd g1 ‹_›) | skip
   go_ret;exact ⟨ret_bool HR.out.symm,Below.refl _ _⟩
  ·have g1:¬ T.size <= n.size:=by rw [hTs];exact hle
   rw [decide_eq_true (show n.size < r.length by omega),Bool.true_and] at hmk;have hlt:n.size < T.size:=by omega
   have hg:r.getD n.size 0 = T[n.size]:=by
    have e:=drop_cons T n.size hlt;rw [hTl] at e;rw [List.getD_eq_getElem?_getD,<- List.head?_drop,e];rfl
   rw [hg] at hmk;have hel:(T.extract 0 n.size).data.toList = r.take n.size:=by rw [extract_list,List.drop_zero,hTl]
   have HLOW:=hide (fun w2=>lower_any (T.extract 0 n.size) w2 (by rw [ByteArray.size_extract];omega));rw [hel] at HLOW;have hu:(T[n.size].toNat:Int).toNat.toUInt8 = T[n.size]:=by rw [Int.toNat_natCast];exact UInt8.ofNat_toNat
   have HU:=hide hu;have q1:(n.size:Int) <= T.size:=by omega
   have hc256:=byte_lt T[n.size];obtain ⟨L,hL⟩:∃ L,str (lowL (r.take n.size)) = L:=⟨_,rfl⟩
   have hLn:(lowL (r.take n.size) == n.data.toList) = decide (L = n):=by
    by_cases e:L = n
    ·rw [decide_eq_true e,beq_iff_eq];have h2:(str (lowL (r.take n.size))).data.toList = n.data.toList:=by rw [hL,e]
     rw [str_toList] at h2;exact h2
    ·rw [decide_eq_false e];exact beq_false_of_ne (fun h=>e (by rw [<- hL,h,str_of]))
   rw [hLn] at hmk;rw [hL] at HLOW;have HIX:=hide (nameEnd_index T[n.size]);clear hp hr hT hTl hTs hrl hg hel hu hL hLn
   by_cases hq:L = n
   ·subst hq;rw [decide_eq_true rfl,Bool.true_and] at hmk;have HMK:=hide hmk;clear hmk;go_enter Tryz.func178,Tryz.ntmps178;go_wp2_with fail;refine (Tryz.strings_CutPrefix s _ _).mono ?_;rintro e w1 ⟨rfl,hw⟩;subst hw;rw [HP.out,HT.out];go_wp2_with fail;refine (HLOW.out _).mono ?_;rintro e w2 ⟨rfl,hb⟩;have HB:=hide hb;clear hb;go_wp2_with fail;refine (Tryz.strings_IndexByte _ _ _).mono ?_;rintro e w3 ⟨rfl,rfl⟩;rw [HU.out];go_wp2_with fail;go_ret;exact ⟨ret_bool (by rw [HMK.out];exact HIX.out),HB.out⟩
   ·rw [decide_eq_false hq,Bool.false_and] at hmk;have tq:=ba_ne hq;have HMK:=hide hmk;clear hmk;go_enter Tryz.func178,Tryz.ntmps178;go_wp2_with fail;refine (Tryz.strings_CutPrefix s _ _).mono ?_;rintro e w1 ⟨rfl,hw⟩;subst hw;rw [HP.out,HT.out];go_wp2_with fail;refine (HLOW.out _).mono ?_;rintro e w2 ⟨rfl,hb⟩;have HB:=hide hb;clear hb;go_wp2_with fail;go_ret;exact ⟨ret_bool HMK.out.symm,HB.out⟩
theorem rawSize_any (s n:ByteArray) (w:World) (hs:s.size <= 16777216) (hn:n.size <= 16777216) :
  Calls Tryz.prog 151 #[.string s,.string n] w fun e w'=>e = .returned (.int .i64 (rawSizeL n.data.toList s.data.toList:Nat)) /\ Below w.heap.size w w':=by
 have hlen:=toList_length s
 by_cases hpl:n = ⟨#[112,108,97,105,110,116,101,120,116]⟩
 ·have HR:Hid (rawSizeL n.data.toList s.data.toList = s.size):=hide (by
   unfold rawSizeL;rw [if_pos (by rw [hpl];rfl),hlen])
  clear hlen;go_enter Tryz.func151,Tryz.ntmps151;go_wp2_with fail;go_ret;exact ⟨ret_int (by rw [HR.out]),Below.refl _ _⟩
 ·have tq:(n.toList == [112,108,97,105,110,116,101,120,116]) = false:=by
   have:=ba_ne hpl
   rwa [show (⟨#[112,108,97,105,110,116,101,120,116]⟩:ByteArray).toList = [112,108,97,105,110,116,101,120,116] from by rw [baList]] at this
  have hrs:rawSizeL n.data.toList s.data.toList = rawN n.data.toList s.data.toList:=by
   unfold rawSizeL
   rw [if_neg (fun h=>hpl (by
    have:=congrArg str h;rw [str_of] at this;exact this))]
  have HRS:=hide hrs;clear hrs;go_enter Tryz.func151,Tryz.ntmps151;go_wp2_with fail;go_loopw [12] (fun i wr=>∃ k:Nat,k <= s.size /\ i = .int .i64 k /\ Hid (rawN n.data.toList s.data.toList = k + rawN n.data.toList (s.data.toList.drop k)) /\ Hid (Below w.heap.size w wr)) (fun i _=>s.size - (intOf i).toNat)
  case atStart=>exact ⟨0,Nat.zero_le _,rfl,hide (by rw [List.drop_zero,Nat.zero_add]),hide (Below.refl _ _)⟩
  case round =>
   obtain ⟨k,hk,rfl,HM,HB⟩:=hrel
   by_cases hlt:k < s.size
   ·have hd:=drop_cons s k hlt;have hel:(s.extract k s.size).data.toList = s.data.toList.drop k:=extract_end s k;have HI:=hide (fun w2=>isRawEnd_any (s.extract k s.size) n w2 (by rw [ByteArray.size_extract];omega) hn);rw [hel] at HI;cases hm:rawEndB n.data.toList (s.data.toList.drop k) with
    | true =>
     rw [hm] at HI
     have HR:Hid (rawN n.data.toList s.data.toList = k):=hide (by
      rw [HM.out,hd];rw [hd] at hm;unfold rawN;rw [if_pos hm,Nat.add_zero])
     clear hd hel hm hlen;go_wp2_with fail;refine (HI.out _).mono ?_;rintro e w1 ⟨rfl,hb⟩;have HB2:=hide (HB.out.trans (hb.mono HB.out.size));clear hb;go_wp2_with fail;go_ret;exact ⟨ret_int (by rw [HRS.out,HR.out]),HB2.out⟩
    | false =>
     rw [hm] at HI
     have HM2:Hid (rawN n.data.toList s.data.toList = (k + 1) + rawN n.data.toList (s.data.toList.drop (k + 1))):=hide (by
      rw [HM.out,hd];rw [hd] at hm
      conv=>lhs;unfold rawN
      rw [if_neg (by rw [hm];exact Bool.false_ne_true)];omega)
     clear hd hel hm hlen;go_wp2_with fail;refine (HI.out _).mono ?_;rintro e w1 ⟨rfl,hb⟩;have HB2:=hide (HB.out.trans (hb.mono HB.out.size));clear hb;go_wp2_with fail;go_roundw
     case rel=>exact ⟨k + 1,by omega,by go_num,HM2,HB2⟩
     case measure=>simp [intOf];omega
   ·obtain rfl:k = s.size:=by omega
    have HR:Hid (rawN n.data.toList s.data.toList = s.size):=hide (by
     rw [HM.out,List.drop_eq_nil_of_le (by rw [hlen];exact Nat.le_refl _)];rfl)
    clear hlen;go_wp2_with fail;go_ret;exact ⟨ret_int (by rw [HRS.out,HR.out]),HB.out⟩
theorem hasPrefix_q (q a:UInt8) (r:List UInt8):Lib.hasPrefix (a :: r) [q] = decide (a = q):=by
 unfold Lib.hasPrefix;show ((q == a) && true) = _
 rw [Bool.and_true]
 by_cases h:a = q
 ·subst h;simp
 ·rw [decide_eq_false h];exact beq_false_of_ne (fun e=>h e.symm)
theorem quote_cut (q:UInt8) (l:List UInt8):(Lib.hasPrefix l [q] = true /\ ∃ r,l = q :: r /\ Lib.trimPrefix l [q] = r) \/ (Lib.hasPrefix l [q] = false /\ l.head? ≠ some q):=by
 cases l with
 | nil=>exact .inr ⟨rfl,by simp⟩
 | cons a r =>
  by_cases h:a = q
  ·subst h;have hp:Lib.hasPrefix (a :: r) [a] = true:=by rw [hasPrefix_q];exact decide_eq_true rfl
   refine .inl ⟨hp,r,rfl,?_⟩;unfold Lib.trimPrefix;rw [hp];rfl
  ·exact .inr ⟨by rw [hasPrefix_q];exact decide_eq_false h,by simpa using h⟩
theorem value_q1 (r:List UInt8):valueL (34 :: r) = (beforeC 34 r,afterC 34 r):=by unfold valueL;simp
theorem value_q2 (r:List UInt8):valueL (39 :: r) = (beforeC 39 r,afterC 39 r):=by unfold valueL;simp
theorem value_no {l:List UInt8} (h1:l.head? ≠ some 34) (h2:l.head? ≠ some 39):valueL l = upL valueEndB l:=by
 cases l with
 | nil=>rfl
 | cons c r =>
  unfold valueL;simp only;rw [if_neg (by simpa using h1),if_neg (by simpa using h2)]
theorem valueEnd_has (c:UInt8):(⟨#[32,9,10,12,13,62]⟩:ByteArray).data.toList.contains c = valueEndB c:=by
 show ([32,9,10,12,13,62]:List UInt8).contains c = valueEndB c
 unfold valueEndB whB;simp only [List.contains_cons,List.contains_nil,Bool.or_false,Bool.or_assoc]
theorem idxQ (k:Nat) (h:k < 2) (w:World):(Instr.index 163 (Value.agg #[.string ⟨#[34]⟩,.string ⟨#[39]⟩]) (.int .i64 k)).run Tryz.prog w = .ok (.string (if k = 0 then ⟨#[34]⟩ else ⟨#[39]⟩)) w:=by
 match k,h with
 | 0,_=>rfl
 | 1,_=>rfl
theorem readValue_any (s:ByteArray) (w:World) (hs:s.size <= 16777216) :
  Calls Tryz.prog 202 #[.string s] w fun e w'=>e = .returned (upV (valueL s.data.toList)) /\ Below w.heap.size w w':=by
 have hlen:=toList_length s;have i0:∀ w:World,(Instr.index 163 (Value.agg #[.string ⟨#[34]⟩,.string ⟨#[39]⟩]) (.int .i64 0)).run Tryz.prog w = .ok (.string ⟨#[34]⟩) w:=fun w=>idxQ 0 (by omega) w
 have i1:∀ w:World,(Instr.index 163 (Value.agg #[.string ⟨#[34]⟩,.string ⟨#[39]⟩]) (.int .i64 1)).run Tryz.prog w = .ok (.string ⟨#[39]⟩) w:=fun w=>idxQ 1 (by omega) w
 have HU0:=hide (fun w2=>upTo0_any s ⟨#[32,9,10,12,13,62]⟩ valueEndB w2 valueEnd_has hs (by decide) (by decide) (by decide));go_enter Tryz.func202,Tryz.ntmps202;go_wp2_with fail;go_loopw [12] (fun i wr=>∃ k:Nat,k <= 2 /\ i = .int .i64 k /\ Hid (1 <= k -> s.data.toList.head? ≠ some 34) /\ Hid (2 <= k -> s.data.toList.head? ≠ some 39) /\ Hid (wr = w)) (fun i _=>2 - (intOf i).toNat)
 case atStart=>exact ⟨0,Nat.zero_le _,rfl,hide (fun h=>absurd h (by omega)),hide (fun h=>absurd h (by omega)),hide rfl⟩
 case round =>
  obtain ⟨k,hk,rfl,H1,H2,HW⟩:=hrel;obtain rfl:=HW.out
  match k,hk with
  | 0,_ =>
   rcases quote_cut 34 s.data.toList with ⟨hp,r,hr,htr⟩ | ⟨hp,hno⟩
   ·obtain ⟨T,hT⟩:∃ T:ByteArray,T = str r:=⟨_,rfl⟩
    have HP:Hid (Lib.hasPrefix s.data.toList (⟨#[34]⟩:ByteArray).data.toList = true):=hide hp
    have HT:Hid ((⟨(Lib.trimPrefix s.data.toList (⟨#[34]⟩:ByteArray).data.toList).toArray⟩:ByteArray) = T):=hide (by
     rw [hT];exact congrArg str htr)
    have hTl:T.data.toList = r:=by rw [hT,str_toList]
    have hTs:T.size <= 70368744177664:=by
     have:=congrArg List.length hr;rw [hlen,List.length_cons] at this;rw [hT,str_size];omega
    have HC:=hide (fun w2=>strCut_any T 34 w2 hTs);rw [hTl] at HC;have HR:Hid (valueL s.data.toList = (beforeC 34 r,afterC 34 r)):=hide (by rw [hr];exact value_q1 r);clear hp hr htr hT hTl hTs;go_wp2_with fail;refine (Tryz.strings_CutPrefix s _ _).mono ?_;rintro e w1 ⟨rfl,hw⟩;subst hw;rw [HP.out,HT.out];go_wp2_with fail;refine (HC.out _).mono ?_;rintro e w2 ⟨rfl,hb⟩;have HB:=hide hb;clear hb;unfold cutV;go_wp2_with fail;go_ret2;exact ⟨by rw [HR.out];rfl,HB.out⟩
   ·have HP:Hid (Lib.hasPrefix s.data.toList (⟨#[34]⟩:ByteArray).data.toList = false):=hide hp;have HN:=hide hno;clear hp hno;go_wp2_with fail;refine (Tryz.strings_CutPrefix s _ _).mono ?_;rintro e w1 ⟨rfl,hw⟩;subst hw;rw [HP.out];go_wp2_with fail;go_roundw
    case rel=>exact ⟨0 + 1,by omega,by go_num,hide (fun _=>HN.out),hide (fun h=>absurd h (by omega)),by first | exact hide trivial | exact hide rfl | exact trivial⟩
    case measure=>simp [intOf]
  | 1,_ =>
   rcases quote_cut 39 s.data.toList with ⟨hp,r,hr,htr⟩ | ⟨hp,hno⟩
   ·obtain ⟨T,hT⟩:∃ T:ByteArray,T = str r:=⟨_,rfl⟩
    have HP:Hid (Lib.hasPrefix s.data.toList (⟨#[39]⟩:ByteArray).data.toList = true):=hide hp
    have HT:Hid ((⟨(Lib.trimPrefix s.data.toList (⟨#[39]⟩:ByteArray).data.toList).toArray⟩:ByteArray) = T):=hide (by
     rw [hT];exact congrArg str htr)
    have hTl:T.data.toList = r:=by rw [hT,str_toList]
    have hTs:T.size <= 70368744177664:=by
     have:=congrArg List.length hr;rw [hlen,List.length_cons] at this;rw [hT,str_size];omega
    have HC:=hide (fun w2=>strCut_any T 39 w2 hTs);rw [hTl] at HC;have HR:Hid (valueL s.data.toList = (beforeC 39 r,afterC 39 r)):=hide (by rw [hr];exact value_q2 r);clear hp hr htr hT hTl hTs;go_wp2_with fail;refine (Tryz.strings_CutPrefix s _ _).mono ?_;rintro e w1 ⟨rfl,hw⟩;subst hw;rw [HP.out,HT.out];go_wp2_with fail;refine (HC.out _).mono ?_;rintro e w2 ⟨rfl,hb⟩;have HB:=hide hb;clear hb;unfold cutV;go_wp2_with fail;go_ret2;exact ⟨by rw [HR.out];rfl,HB.out⟩
   ·have HP:Hid (Lib.hasPrefix s.data.toList (⟨#[39]⟩:ByteArray).data.toList = false):=hide hp;have HN:=hide hno;clear hp hno;go_wp2_with fail;refine (Tryz.strings_CutPrefix s _ _).mono ?_;rintro e w1 ⟨rfl,hw⟩;subst hw;rw [HP.out];go_wp2_with fail;go_roundw
    case rel=>exact ⟨1 + 1,by omega,by go_num,hide (fun _=>H1.out (by omega)),hide (fun _=>HN.out),by first | exact hide trivial | exact hide rfl | exact trivial⟩
    case measure=>simp [intOf]
  | 2,_ =>
   have HR:=hide (value_no (H1.out (by omega)) (H2.out (by omega)));go_wp2_with fail;refine (HU0.out _).mono ?_;rintro e w1 ⟨rfl,hb⟩;have HB:=hide hb;clear hb;unfold upV;go_wp2_with fail;go_ret2;exact ⟨by rw [HR.out];rfl,HB.out⟩
end Go.Proofs.YtiejmkjpgjbodaaGreatDoor
