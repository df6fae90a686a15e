import Derived.Test.YtiejmkjpgjbodaaGreatDoorBaseS
import Derived.Test.YtiejmkjpgjbodaaGreatDoorBaseQ
import Derived.Test.YtiejmkjpgjbodaaGreatDoorBaseP
import Derived.Test.YtiejmkjpgjbodaaGreatDoorBaseN
import Derived.Laws.OwnMore
namespace Go.Proofs.YtiejmkjpgjbodaaGreatDoor
open Go.RowKit
set_option linter.unusedVariables false
set_option linter.unusedSimpArgs false
set_option maxRecDepth 100000
structure ArV where
  h:NdH
  av:Value
  ks:List Nat
  kv:Value
def ArV.toN (p:ArV):ArN:=(p.h,p.ks)
def arCells (p:ArV):List Value:=[.string (str p.h.name),p.av,.string (str p.h.text),.slice none 0 0,p.kv]
def arVals (l:List ArV):List Value:=l.flatMap arCells
def intVals (l:List Nat):List Value:=l.map fun n:Nat=>Value.int .i64 n
theorem arVals_append (a b:List ArV):arVals (a ++ b) = arVals a ++ arVals b:=by unfold arVals;rw [List.flatMap_append]
theorem arVals_at {l:List ArV} {i:Nat} {p:ArV} (h:l[i]? = some p) (j:Nat) (hj:j < 5):(arVals l)[i * 5 + j]? = (arCells p)[j]?:=by
 induction l generalizing i with
 | nil=>simp at h
 | cons q r ih =>
  have e:arVals (q :: r) = arCells q ++ arVals r:=by unfold arVals;rw [List.flatMap_cons]
  cases i with
  | zero =>
   simp only [List.getElem?_cons_zero,Option.some.injEq] at h;subst h;rw [e,Nat.zero_mul,Nat.zero_add,List.getElem?_append_left (by simp [arCells];omega)]
  | succ i =>
   rw [e,List.getElem?_append_right (by simp [arCells];omega),show (i + 1) * 5 + j - (arCells q).length = i * 5 + j by simp [arCells];omega];exact ih (by simpa using h)
theorem arVals_set {l:List ArV} {i:Nat} {p p':ArV} (h:l[i]? = some p) (j:Nat) (u:Value) (hj:j < 5) (he:(arCells p).set j u = arCells p'):(arVals l).set (i * 5 + j) u = arVals (l.set i p'):=by
 induction l generalizing i with
 | nil=>simp at h
 | cons q r ih =>
  have e:∀ (q:ArV) r,arVals (q :: r) = arCells q ++ arVals r:=fun q r=>by unfold arVals;rw [List.flatMap_cons]
  cases i with
  | zero =>
   simp only [List.getElem?_cons_zero,Option.some.injEq] at h;subst h;rw [e,Nat.zero_mul,Nat.zero_add,List.set_append_left _ _ (by simp [arCells];omega),he,List.set_cons_zero,e]
  | succ i =>
   rw [e,List.set_append_right _ _ (by simp [arCells];omega),show (i + 1) * 5 + j - (arCells q).length = i * 5 + j by simp [arCells];omega,ih (by simpa using h),List.set_cons_succ,e]
structure AB (B b:Nat) (r o:Value) (l:List ArV) (opn:List Nat) (W0 w:World):Prop where
  blk:w.heap[b]? = some (.cells #[r,o] 68 (0,0))
  row:w.ownsRow B 65 5 r l.length (arVals l)
  opn:w.ownsRow B 3 1 o opn.length (intVals opn)
  attrs:∀ (i:Nat) p,l[i]? = some p -> AttrsC (fun g=>g < B) w p.av p.h.attrs
  kids:∀ (i:Nat) p,l[i]? = some p -> w.ownsRow B 3 1 p.kv p.ks.length (intVals p.ks)
  apart:∀ (i j:Nat) p q,i ≠ j -> l[i]? = some p -> l[j]? = some q -> p.kv.ownBlock = none \/ p.kv.ownBlock ≠ q.kv.ownBlock
  free:∀ (i:Nat) p,l[i]? = some p -> p.kv.ownBlock = none \/ p.kv.ownBlock ≠ o.ownBlock
  base:B <= b
  below:Below B W0 w
  size:B <= w.heap.size
theorem ne_symm {a b : Option Nat} (h : a = none ∨ a ≠ b) : b = none ∨ b ≠ a := by
  cases b with
  | none => exact .inl rfl
  | some k => rcases h with h | h
              · exact .inr (by rw [h]; simp)
              · exact .inr (fun e => h e.symm)
theorem hole_block {w:World} {b:Nat} {cs:Array Value} {T:TypeId} (h:w.heap[b]? = some (.cells cs T (0,0))) (cur:Array Value) (e:TypeId) (he:e ≠ T):w.heap[b]? ≠ some (.cells cur e (0,0)):=fun hx=>by
 rw [h] at hx;injection hx with hx;injection hx with _ hx;exact he hx.symm
theorem own_hole {w:World} {B:Nat} {e e':TypeId} {sz n g c:Nat} {xs:List Value} (h:w.ownsRow B e sz (.slice (some ⟨g,0,none⟩) n c) n xs) (cur:Array Value) (he:e' ≠ e):w.heap[g]? ≠ some (.cells cur e' (0,0)):=by
 rcases h.2 with ⟨h0,_⟩ | ⟨g',cap',cur',h0,_,hh,_⟩
 ·cases h0
 ·injection h0 with h0 _ _;injection h0 with h0;injection h0 with h0;subst h0;exact hole_block hh cur e' he
theorem AB.kept {B b:Nat} {r o:Value} {l:List ArV} {opn:List Nat} {W0 w w':World} (h:AB B b r o l opn W0 w) (hb:Below w.heap.size w w'):AB B b r o l opn W0 w':=by
 have hg:=grown_none hb;have hn:∀ v:Value,v.ownBlock = none \/ v.ownBlock ≠ none:=fun v=>by cases v.ownBlock <;> simp
 exact ⟨(hb.block b (lt_of_block h.blk)).trans h.blk,h.row.kept hg (hn _),h.opn.kept hg (hn _),fun i p hp=>(h.attrs i p hp).mono (fun g hgB=>hb.block g (Nat.lt_of_lt_of_le hgB h.size)) (fun _ x=>x),fun i p hp=>(h.kids i p hp).kept hg (hn _),h.apart,h.free,h.base,h.below.trans (hb.mono h.size),Nat.le_trans h.size hb.size⟩
theorem AB.c0 {B b:Nat} {r o:Value} {l:List ArV} {opn:List Nat} {W0 w:World} (h:AB B b r o l opn W0 w):w.cell? ⟨b,0,none⟩ = some r:=by rw [Lib.cell_of_heap h.blk];rfl
theorem AB.c1 {B b:Nat} {r o:Value} {l:List ArV} {opn:List Nat} {W0 w:World} (h:AB B b r o l opn W0 w):w.cell? ⟨b,1,none⟩ = some o:=by rw [Lib.cell_of_heap h.blk];rfl
theorem AB.f {B b:Nat} {r o:Value} {l:List ArV} {opn:List Nat} {W0 w:World} (h:AB B b r o l opn W0 w) (i:Nat):w.frozen? ⟨b,i,none⟩ = false:=Lib.frozen_of_heap h.blk i
theorem own_form {w:World} {B:Nat} {e:TypeId} {sz n:Nat} {v:Value} {xs:List Value} (h:w.ownsRow B e sz v n xs) (hn:0 < n):∃ g c,v = .slice (some ⟨g,0,none⟩) n c /\ n <= c /\ c <= maxLen /\ B <= g /\ g < w.heap.size:=by
 rcases h.2 with ⟨_,h0⟩ | ⟨g,c,cur,hv,hg,hh,h1,h2,_⟩
 ·omega
 ·exact ⟨g,c,hv,h1,h2,hg,lt_of_block hh⟩
theorem own_slice {w:World} {B:Nat} {e:TypeId} {sz n:Nat} {v:Value} {xs:List Value} (h:w.ownsRow B e sz v n xs):∃ A c,v = .slice A n c /\ n <= c /\ c <= maxLen:=by
 rcases h.2 with ⟨hv,h0⟩ | ⟨g,c,cur,hv,hg,hh,h1,h2,_⟩
 ·exact ⟨none,0,by rw [hv,h0],by omega,Nat.zero_le _⟩
 ·exact ⟨_,c,hv,h1,h2⟩
theorem AB.after {B b:Nat} {r o:Value} {l:List ArV} {opn:List Nat} {W0 w w2:World} (h:AB B b r o l opn W0 w) {B':Nat} {e:TypeId} {sz n:Nat} {v:Value} {xs:List Value} (hv:w.ownsRow B' e sz v n xs) (he:e ≠ 68) (hg:w.grownBy w2 v.ownBlock) :
  w2.heap[b]? = some (.cells #[r,o] 68 (0,0)) /\ w2.cell? ⟨b,0,none⟩ = some r /\ w2.cell? ⟨b,1,none⟩ = some o /\ ∀ i,w2.frozen? ⟨b,i,none⟩ = false:=by
 have hb2:w2.heap[b]? = some (.cells #[r,o] 68 (0,0)):=(hg.block b (lt_of_block h.blk) (fun e2=>(ownsRow_other hv (r:=b) (fun cur=>hole_block h.blk cur _ he)) e2.symm)).trans h.blk;exact ⟨hb2,by rw [Lib.cell_of_heap hb2];rfl,by rw [Lib.cell_of_heap hb2];rfl,fun i=>Lib.frozen_of_heap hb2 i⟩
theorem AB.node {B b g c n:Nat} {o:Value} {l:List ArV} {opn:List Nat} {W0 w:World} (h:AB B b (.slice (some ⟨g,0,none⟩) n c) o l opn W0 w) {i:Nat} {p:ArV} (hp:l[i]? = some p) :
  w.cell? ⟨g,i * 5,none⟩ = some (.string (str p.h.name)) /\ w.cell? ⟨g,i * 5 + 1,none⟩ = some p.av /\ w.cell? ⟨g,i * 5 + 2,none⟩ = some (.string (str p.h.text)) /\ w.cell? ⟨g,i * 5 + 3,none⟩ = some (.slice none 0 0) /\ w.cell? ⟨g,i * 5 + 4,none⟩ = some p.kv /\ (∀ k,w.frozen? ⟨g,k,none⟩ = false):=by
 have hi:i < l.length:=(List.getElem?_eq_some_iff.1 hp).1;have hr:=h.row;obtain ⟨A,c2,hv,_⟩:=own_slice hr;injection hv with _ hv _;subst hv
 have hc:∀ j,j < 5 -> w.cell? ⟨g,i * 5 + j,none⟩ = (arCells p)[j]?:=fun j hj=>by
  rw [hr.cellAt _ (by omega),arVals_at hp j hj]
 exact ⟨hc 0 (by decide),hc 1 (by decide),hc 2 (by decide),hc 3 (by decide),hc 4 (by decide),fun k=>hr.frozenAt k⟩
theorem own_int {w:World} {B g n c:Nat} {l:List Nat} (h:w.ownsRow B 3 1 (.slice (some ⟨g,0,none⟩) n c) n (intVals l)) {i k:Nat} (hi:l[i]? = some k) (hn:n = l.length):w.cell? ⟨g,i,none⟩ = some (.int .i64 k):=by
 have hlt:i < l.length:=(List.getElem?_eq_some_iff.1 hi).1;rw [h.cellAt _ (by omega)];unfold intVals;rw [List.getElem?_map,hi];rfl
theorem AB.rowHole {B b g c n:Nat} {o:Value} {l:List ArV} {opn:List Nat} {W0 w:World} (h:AB B b (.slice (some ⟨g,0,none⟩) n c) o l opn W0 w) (cur:Array Value) {e:TypeId} (he:e ≠ 65):w.heap[g]? ≠ some (.cells cur e (0,0)):=by
 have hr:=h.row;obtain ⟨A,c2,hv,_⟩:=own_slice hr;injection hv with _ hv _;subst hv;exact own_hole hr cur he
theorem AB.afterKids {B b g c n:Nat} {o:Value} {l:List ArV} {opn:List Nat} {W0 w w2:World} (h:AB B b (.slice (some ⟨g,0,none⟩) n c) o l opn W0 w) {B':Nat} {m:Nat} {v:Value} {xs:List Value} (hv:w.ownsRow B' 3 1 v m xs) (hg:w.grownBy w2 v.ownBlock) {i:Nat} {p:ArV} (hp:l[i]? = some p) :
  w2.cell? ⟨g,i * 5 + 4,none⟩ = some p.kv /\ ∀ k,w2.frozen? ⟨g,k,none⟩ = false:=by
 have hi:i < l.length:=(List.getElem?_eq_some_iff.1 hp).1;have hr:=h.row;obtain ⟨A,c2,hs,_⟩:=own_slice hr;injection hs with _ hs _;subst hs;have hr2:=hr.kept hg (ownsRow_diff (by decide) hr hv);exact ⟨by rw [hr2.cellAt _ (by omega),arVals_at hp 4 (by decide)];rfl,fun k=>hr2.frozenAt k⟩
theorem AB.pushNode {B b:Nat} {r r' o:Value} {l:List ArV} {opn:List Nat} {W0 w w2:World} {hd:NdH} {av:Value} (h:AB B b r o l opn W0 w)
  (ho:w2.ownsRow B 65 5 r' (l.length + 1) (arVals (l ++ [⟨hd,av,[],.slice none 0 0⟩]))) (hg:w.grownBy w2 r.ownBlock)
  (ha:AttrsC (fun g=>g < B) w av hd.attrs):AB B b r' o (l ++ [⟨hd,av,[],.slice none 0 0⟩]) opn W0 (w2.setCell ⟨b,0,none⟩ r'):=by
 have hb2:w2.heap[b]? = some (.cells #[r,o] 68 (0,0)):=(hg.block b (lt_of_block h.blk) (fun e=>(ownsRow_other h.row (r:=b) (fun cur=>hole_block h.blk cur _ (by decide))) e.symm)).trans h.blk;have hg3:=grown_put w2 b 0 r'
 have keep:∀ {e:TypeId} {sz m:Nat} {v:Value} {xs:List Value},e ≠ 65 -> e ≠ 68 -> w.ownsRow B e sz v m xs -> (w2.setCell ⟨b,0,none⟩ r').ownsRow B e sz v m xs:=fun {e sz m v xs} h1 h2 hx =>
  own_type (hx.kept hg (ownsRow_diff h1 hx h.row)) hg3 (fun cur=>hole_block hb2 cur e h2)
 have hB:Below B w (w2.setCell ⟨b,0,none⟩ r'):=((Below.refl B w).grown hg h.size (fun k e=>(h.row.lt k e).1)).grown hg3 (Nat.le_trans h.size hg.size) (fun k e=>by injection e with e;rw [<- e];exact h.base);have hk:∀ g,g < B -> (w2.setCell ⟨b,0,none⟩ r').heap[g]? = w.heap[g]?:=fun g hgB=>hB.block g hgB
 have split:∀ (i:Nat) p,(l ++ [⟨hd,av,[],.slice none 0 0⟩])[i]? = some p -> l[i]? = some p \/ p = ⟨hd,av,[],.slice none 0 0⟩:=fun i p hp=>by
  by_cases hlt:i < l.length
  ·rw [List.getElem?_append_left hlt] at hp;exact .inl hp
  ·rw [List.getElem?_append_right (by omega)] at hp;have:=List.mem_of_getElem? hp;exact .inr (List.mem_singleton.1 this)
 refine ⟨by rw [heap_put0 hb2];rfl,?_,keep (by decide) (by decide) h.opn,fun i p hp=>?_,fun i p hp=>?_,fun i j p q hij hp hq=>?_,fun i p hp=>?_,h.base,h.below.trans hB,Nat.le_trans h.size (Nat.le_trans hg.size hg3.size)⟩
 ·rw [List.length_append];exact own_type ho hg3 (fun cur=>hole_block hb2 cur _ (by decide))
 ·rcases split i p hp with hp | rfl
  ·exact (h.attrs i p hp).mono hk (fun _ x=>x)
  ·exact ha.mono hk (fun _ x=>x)
 ·rcases split i p hp with hp | rfl
  ·exact keep (by decide) (by decide) (h.kids i p hp)
  ·exact World.ownsRow_nil _ B _ 1
 ·rcases split i p hp with hp | rfl
  ·rcases split j q hq with hq | rfl
   ·exact h.apart i j p q hij hp hq
   ·exact ne_symm (.inl rfl)
  ·exact .inl rfl
 ·rcases split i p hp with hp | rfl
  ·exact h.free i p hp
  ·exact .inl rfl
theorem AB.setNode {B b g c n:Nat} {o:Value} {l:List ArV} {opn:List Nat} {W0 w:World} (h:AB B b (.slice (some ⟨g,0,none⟩) n c) o l opn W0 w) {i:Nat} {p p':ArV} (hp:l[i]? = some p) (j:Nat) (u:Value) (hj:j < 5) (he:(arCells p).set j u = arCells p')
  (ha:p'.av = p.av /\ p'.h.attrs = p.h.attrs) (hk:w.ownsRow B 3 1 p'.kv p'.ks.length (intVals p'.ks)) (hap:∀ (j:Nat) q,i ≠ j -> l[j]? = some q -> p'.kv.ownBlock = none \/ p'.kv.ownBlock ≠ q.kv.ownBlock) (hfr:p'.kv.ownBlock = none \/ p'.kv.ownBlock ≠ o.ownBlock) :
  AB B b (.slice (some ⟨g,0,none⟩) n c) o (l.set i p') opn W0 (w.setCell ⟨g,i * 5 + j,none⟩ u):=by
 have hi:i < l.length:=(List.getElem?_eq_some_iff.1 hp).1;have hr:=h.row;obtain ⟨A,c2,hv,_⟩:=own_slice hr;injection hv with _ hv _;subst hv;obtain ⟨r1,hg3⟩:=hr.stored (i * 5 + j) u;have hBg:B <= g:=(hr.lt g rfl).1
 have keep:∀ {e:TypeId} {sz m:Nat} {v:Value} {xs:List Value},e ≠ 65 -> w.ownsRow B e sz v m xs -> (w.setCell ⟨g,i * 5 + j,none⟩ u).ownsRow B e sz v m xs:=fun {e sz m v xs} h1 hx =>
  own_type hx hg3 (fun cur=>own_hole hr cur h1)
 have hB:Below B w (w.setCell ⟨g,i * 5 + j,none⟩ u):=(Below.refl B w).grown hg3 h.size (fun k e=>by injection e with e;rw [<- e];exact hBg);have hk2:∀ g',g' < B -> (w.setCell ⟨g,i * 5 + j,none⟩ u).heap[g']? = w.heap[g']?:=fun g' hgB=>hB.block g' hgB
 have split:∀ (k:Nat) q,(l.set i p')[k]? = some q -> (k = i /\ q = p') \/ (k ≠ i /\ l[k]? = some q):=fun k q hq=>by
  by_cases e:k = i
  ·subst e;rw [List.getElem?_set_self hi] at hq;injection hq with hq;exact .inl ⟨rfl,hq.symm⟩
  ·rw [List.getElem?_set_ne (fun e2=>e e2.symm)] at hq;exact .inr ⟨e,hq⟩
 refine ⟨?_,?_,keep (by decide) h.opn,fun k q hq=>?_,fun k q hq=>?_,fun k m q s hkm hq hs=>?_,fun k q hq=>?_,h.base,h.below.trans hB,Nat.le_trans h.size hg3.size⟩
 ·rw [hg3.block b (lt_of_block h.blk) (fun e=>by
   injection e with e;have:=own_hole hr #[.slice (some ⟨g,0,none⟩) l.length c,o] (e':=68) (by decide);exact this (by rw [show w.heap[g]? = w.heap[b]? by rw [e]];exact h.blk))]
  exact h.blk
 ·rw [List.length_set,<- arVals_set hp j u hj he];exact r1
 ·rcases split k q hq with ⟨_,rfl⟩ | ⟨_,hq⟩
  ·rw [ha.1,ha.2];exact (h.attrs i p hp).mono hk2 (fun _ x=>x)
  ·exact (h.attrs k q hq).mono hk2 (fun _ x=>x)
 ·rcases split k q hq with ⟨_,rfl⟩ | ⟨_,hq⟩
  ·exact keep (by decide) hk
  ·exact keep (by decide) (h.kids k q hq)
 ·rcases split k q hq with ⟨e1,rfl⟩ | ⟨e1,hq⟩
  ·rcases split m s hs with ⟨e2,rfl⟩ | ⟨e2,hs⟩
   ·exact absurd (e1.trans e2.symm) hkm
   ·exact hap m s (fun e=>e2 e.symm) hs
  ·rcases split m s hs with ⟨e2,e3⟩ | ⟨e2,hs⟩
   ·rw [e3];exact ne_symm (hap k q (fun e=>e1 e.symm) hq)
   ·exact h.apart k m q s hkm hq hs
 ·rcases split k q hq with ⟨_,rfl⟩ | ⟨_,hq⟩
  ·exact hfr
  ·exact h.free k q hq
theorem AB.pushKid {B b g c n:Nat} {o:Value} {l:List ArV} {opn:List Nat} {W0 w w2:World} {i k:Nat} {p:ArV} {kv':Value} (h:AB B b (.slice (some ⟨g,0,none⟩) n c) o l opn W0 w) (hp:l[i]? = some p) (hg:w.grownBy w2 p.kv.ownBlock)
  (ho:w2.ownsRow B 3 1 kv' (p.ks.length + 1) (intVals (p.ks ++ [k]))) (hor:kv'.ownBlock = p.kv.ownBlock \/ kv'.ownBlock = some w.heap.size) :
  AB B b (.slice (some ⟨g,0,none⟩) n c) o (l.set i { p with kv:=kv',ks:=p.ks ++ [k] }) opn W0 (w2.setCell ⟨g,i * 5 + 4,none⟩ kv'):=by
 have hi:i < l.length:=(List.getElem?_eq_some_iff.1 hp).1;have hkp:=h.kids i p hp;have hr:=h.row;obtain ⟨A,c2,hv,_⟩:=own_slice hr;injection hv with _ hv _;subst hv;have keep:∀ {e:TypeId} {sz m:Nat} {v:Value} {xs:List Value},e ≠ 3 -> w.ownsRow B e sz v m xs -> w2.ownsRow B e sz v m xs:=fun {e sz m v xs} h1 hx=>hx.kept hg (ownsRow_diff h1 hx hkp)
 have hr2:=keep (by decide) hr;have hb2:w2.heap[b]? = some (.cells #[.slice (some ⟨g,0,none⟩) l.length c,o] 68 (0,0)):=(hg.block b (lt_of_block h.blk) (fun e=>(ownsRow_other hkp (r:=b) (fun cur=>hole_block h.blk cur _ (by decide))) e.symm)).trans h.blk;obtain ⟨r1,hg3⟩:=hr2.stored (i * 5 + 4) kv';have hBg:B <= g:=(hr.lt g rfl).1
 have keep3:∀ {e:TypeId} {sz m:Nat} {v:Value} {xs:List Value},e ≠ 65 -> w2.ownsRow B e sz v m xs -> (w2.setCell ⟨g,i * 5 + 4,none⟩ kv').ownsRow B e sz v m xs:=fun {e sz m v xs} h1 hx =>
  own_type hx hg3 (fun cur=>own_hole hr2 cur h1)
 have hB2:Below B w w2:=(Below.refl B w).grown hg h.size (fun k e=>(hkp.lt k e).1);have hB:Below B w (w2.setCell ⟨g,i * 5 + 4,none⟩ kv'):=hB2.grown hg3 (Nat.le_trans h.size hg.size) (fun k e=>by injection e with e;rw [<- e];exact hBg);have hk2:∀ g',g' < B -> (w2.setCell ⟨g,i * 5 + 4,none⟩ kv').heap[g']? = w.heap[g']?:=fun g' hgB=>hB.block g' hgB
 have split:∀ (m:Nat) q,(l.set i { p with kv:=kv',ks:=p.ks ++ [k] })[m]? = some q -> (m = i /\ q = { p with kv:=kv',ks:=p.ks ++ [k] }) \/ (m ≠ i /\ l[m]? = some q):=fun m q hq=>by
  by_cases e:m = i
  ·subst e;rw [List.getElem?_set_self hi] at hq;injection hq with hq;exact .inl ⟨rfl,hq.symm⟩
  ·rw [List.getElem?_set_ne (fun e2=>e e2.symm)] at hq;exact .inr ⟨e,hq⟩
 have hnew:∀ (v:Value),(p.kv.ownBlock = none \/ p.kv.ownBlock ≠ v.ownBlock) -> (∀ k,v.ownBlock = some k -> k < w.heap.size) -> kv'.ownBlock = none \/ kv'.ownBlock ≠ v.ownBlock:=fun v h1 h2=>by
  rcases hor with e | e
  ·rw [e];exact h1
  ·rw [e];exact .inr (fun e2=>Nat.lt_irrefl _ (h2 _ e2.symm))
 refine ⟨?_,?_,keep3 (by decide) (h.opn.kept hg (ne_symm (h.free i p hp))),fun m q hq=>?_,fun m q hq=>?_,fun m s q t hms hq ht=>?_,fun m q hq=>?_,h.base,h.below.trans hB,Nat.le_trans h.size (Nat.le_trans hg.size hg3.size)⟩
 ·rw [hg3.block b (lt_of_block hb2) (fun e=>by
   injection e with e;have:=own_hole hr2 #[.slice (some ⟨g,0,none⟩) l.length c,o] (e':=68) (by decide);exact this (by rw [show w2.heap[g]? = w2.heap[b]? by rw [e]];exact hb2))]
  exact hb2
 ·rw [List.length_set,<- arVals_set (p':={ p with kv:=kv',ks:=p.ks ++ [k] }) hp 4 kv' (by decide) rfl];exact r1
 ·rcases split m q hq with ⟨_,rfl⟩ | ⟨_,hq⟩
  ·exact (h.attrs i p hp).mono hk2 (fun _ x=>x)
  ·exact (h.attrs m q hq).mono hk2 (fun _ x=>x)
 ·rcases split m q hq with ⟨_,rfl⟩ | ⟨hne,hq⟩
  ·exact keep3 (by decide) (by rw [List.length_append];exact ho)
  ·exact keep3 (by decide) ((h.kids m q hq).kept hg (h.apart m i q p hne hq hp))
 ·rcases split m q hq with ⟨e1,rfl⟩ | ⟨e1,hq⟩
  ·rcases split s t ht with ⟨e2,rfl⟩ | ⟨e2,ht⟩
   ·exact absurd (e1.trans e2.symm) hms
   ·exact hnew t.kv (h.apart i s p t (fun e=>e2 e.symm) hp ht) (fun k e=>((h.kids s t ht).lt k e).2)
  ·rcases split s t ht with ⟨e2,rfl⟩ | ⟨e2,ht⟩
   ·exact ne_symm (hnew q.kv (h.apart i m p q (fun e=>e1 e.symm) hp hq) (fun k e=>((h.kids m q hq).lt k e).2))
   ·exact h.apart m s q t hms hq ht
 ·rcases split m q hq with ⟨_,rfl⟩ | ⟨_,hq⟩
  ·exact hnew o (h.free i p hp) (fun k e=>(h.opn.lt k e).2)
  ·exact h.free m q hq
theorem AB.setOpen {B b:Nat} {r o o':Value} {l:List ArV} {opn opn':List Nat} {W0 w w2:World} (h:AB B b r o l opn W0 w) (hg:w.grownBy w2 o.ownBlock)
  (ho:w2.ownsRow B 3 1 o' opn'.length (intVals opn')) (hor:o'.ownBlock = o.ownBlock \/ o'.ownBlock = some w.heap.size):AB B b r o' l opn' W0 (w2.setCell ⟨b,1,none⟩ o'):=by
 have hb2:w2.heap[b]? = some (.cells #[r,o] 68 (0,0)):=(hg.block b (lt_of_block h.blk) (fun e=>(ownsRow_other h.opn (r:=b) (fun cur=>hole_block h.blk cur _ (by decide))) e.symm)).trans h.blk;have hg3:=grown_put w2 b 1 o'
 have keep3:∀ {e:TypeId} {sz m:Nat} {v:Value} {xs:List Value},e ≠ 68 -> w2.ownsRow B e sz v m xs -> (w2.setCell ⟨b,1,none⟩ o').ownsRow B e sz v m xs:=fun {e sz m v xs} h2 hx =>
  own_type hx hg3 (fun cur=>hole_block hb2 cur e h2)
 have hB:Below B w (w2.setCell ⟨b,1,none⟩ o'):=((Below.refl B w).grown hg h.size (fun k e=>(h.opn.lt k e).1)).grown hg3 (Nat.le_trans h.size hg.size) (fun k e=>by injection e with e;rw [<- e];exact h.base);have hk:∀ g,g < B -> (w2.setCell ⟨b,1,none⟩ o').heap[g]? = w.heap[g]?:=fun g hgB=>hB.block g hgB
 refine ⟨by rw [heap_put0 hb2];rfl,keep3 (by decide) (h.row.kept hg (ownsRow_diff (by decide) h.row h.opn)),keep3 (by decide) ho,fun i p hp=>(h.attrs i p hp).mono hk (fun _ x=>x),fun i p hp=>keep3 (by decide) ((h.kids i p hp).kept hg (h.free i p hp)),h.apart,fun i p hp=>?_,h.base,h.below.trans hB,Nat.le_trans h.size (Nat.le_trans hg.size hg3.size)⟩;rcases hor with e | e
 ·rw [e];exact h.free i p hp
 ·rw [e];cases hv:p.kv.ownBlock with
  | none=>exact .inl rfl
  | some k=>exact .inr (fun e2=>by
    injection e2 with e2;have:=((h.kids i p hp).lt k hv).2;omega)
theorem own_take {w:World} {B:Nat} {g n c m:Nat} {l:List Nat} (h:w.ownsRow B 3 1 (.slice (some ⟨g,0,none⟩) n c) n (intVals l)) (hn:n = l.length) (hm:m <= n):w.ownsRow B 3 1 (.slice (some ⟨g,0,none⟩) (l.take m).length c) (l.take m).length (intVals (l.take m)):=by
 subst hn;have hl:(l.take m).length = m:=by rw [List.length_take];omega
 rw [hl];rcases h.2 with ⟨h0,_⟩ | ⟨g',c',cur,h0,hg,hh,h1,h2,h3,h4⟩
 ·cases h0
 ·injection h0 with e1 e2 e3;injection e1 with e1;injection e1 with e1;subst e1 e3;refine ⟨by unfold intVals;rw [List.length_map,hl,Nat.mul_one],.inr ⟨g,c,cur,rfl,hg,hh,by omega,h2,h3,?_⟩⟩;have e5:=congrArg (List.take (m * 1)) h4;rw [List.take_take,Nat.min_eq_left (by omega)] at e5;rw [e5];unfold intVals;rw [List.map_take,Nat.mul_one]
def TokS (w w':World):Prop:=∀ (g:Nat) (cur:Array Value),w.heap[g]? = some (Obj.cells cur 51 (0,0)) -> w'.heap[g]? = w.heap[g]?
theorem TokS.refl (w:World):TokS w w:=fun _ _ _=>rfl
theorem TokS.trans {a b c:World} (h:TokS a b) (k:TokS b c):TokS a c:=fun g cur hg=>(k g cur ((h g cur hg).trans hg)).trans (h g cur hg)
theorem TokS.below {w w':World} (h:Below w.heap.size w w'):TokS w w':=fun g cur hg=>h.block g (lt_of_block hg)
theorem TokS.own {w w':World} {B:Nat} {e:TypeId} {sz n:Nat} {v:Value} {xs:List Value} (ho:w.ownsRow B e sz v n xs) (hg:w.grownBy w' v.ownBlock) (he:e ≠ 51):TokS w w':=fun g cur h =>
 hg.block g (lt_of_block h) (fun e2=>ownsRow_other ho (r:=g) (fun cur' h2=>hole_block h cur' e he h2) e2.symm)
theorem TokS.store {w w2:World} {b i:Nat} {u:Value} (h:TokS w w2) (hne:∀ cur,w.heap[b]? ≠ some (Obj.cells cur 51 (0,0))):TokS w (w2.setCell ⟨b,i,none⟩ u):=fun g cur hg =>
 (Below.heap_setCell _ _ _ g (fun e=>hne cur (by rw [<- show g = b from e];exact hg))).trans (h g cur hg)
def arL (l:List ArV):List ArN:=l.map ArV.toN
theorem arL_at {l:List ArV} {i:Nat} {hd:NdH} {ks:List Nat} (h:(arL l)[i]? = some (hd,ks)):∃ p,l[i]? = some p /\ p.h = hd /\ p.ks = ks:=by
 unfold arL at h;rw [List.getElem?_map] at h;obtain ⟨p,hp,e⟩:=Option.map_eq_some_iff.1 h;unfold ArV.toN at e;injection e with e1 e2;exact ⟨p,hp,e1,e2⟩
theorem arL_put {l:List ArV} {a:Nat} {p:ArV} {hd:NdH} {av kv:Value} (hp:l[a]? = some p):arL ((l ++ [(⟨hd,av,[],.slice none 0 0⟩:ArV)]).set a { p with kv:=kv,ks:=p.ks ++ [l.length] }) = arPut (arL l) a hd:=by
 have hal:a < l.length:=(List.getElem?_eq_some_iff.1 hp).1;apply List.ext_getElem?;intro i;unfold arPut arL;rw [List.getElem?_map,List.getElem?_modify]
 by_cases hi:a = i
 ·subst hi;rw [List.getElem?_set_self (by rw [List.length_append];omega),List.getElem?_append_left (by rw [List.length_map];exact hal),List.getElem?_map,hp];simp [ArV.toN]
 ·rw [List.getElem?_set_ne hi,<- List.getElem?_map,List.map_append];simp [hi,ArV.toN]
theorem arL_len (l:List ArV):(arL l).length = l.length:=by unfold arL;rw [List.length_map]
end Go.Proofs.YtiejmkjpgjbodaaGreatDoor
