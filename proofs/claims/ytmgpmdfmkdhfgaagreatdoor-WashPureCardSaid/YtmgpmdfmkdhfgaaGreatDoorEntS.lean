import Derived.Test.YtmgpmdfmkdhfgaaGreatDoorEntM
import Derived.Test.YtmgpmdfmkdhfgaaGreatDoorBaseS
import Derived.Test.YtmgpmdfmkdhfgaaGreatDoorBaseP
import Derived.Deep.MidRow
namespace Go.Proofs.YtmgpmdfmkdhfgaaGreatDoor
open Go.RowKit
set_option linter.unusedVariables false
set_option linter.unusedSimpArgs false
set_option maxRecDepth 100000
def keyE (k:Nat):ByteArray:=match k with | 0=>⟨#[38]⟩ | 1=>⟨#[60]⟩ | 2=>⟨#[62]⟩ | _=>⟨#[194,160]⟩
def valE (k:Nat):ByteArray:=match k with | 0=>str ampT | 1=>str ltT | 2=>str gtT | _=>str nbT
def OldNewE (g:Nat) (w:World):Prop:=∀ k,k < 4 -> w.cell? ⟨g,2 * k,none⟩ = some (.string (keyE k)) /\ w.cell? ⟨g,2 * k + 1,none⟩ = some (.string (valE k))
theorem OldNewE.kept {g:Nat} {w w':World} (h:OldNewE g w) (hg:g < w.heap.size) (hb:Below w.heap.size w w'):OldNewE g w':=fun k hk=>⟨(hb.cell (p:=⟨g,2 * k,none⟩) hg).trans (h k hk).1,(hb.cell (p:=⟨g,2 * k + 1,none⟩) hg).trans (h k hk).2⟩
structure GSt (B:Nat) (W0:World) (G:Nat) (sz:Nat) (f:Nat -> Nat) (w:World):Prop where
  below:Below B W0 w
  lo:B <= G
  c0:w.cell? ⟨G,0,none⟩ = some (.string ⟨#[]⟩)
  c1:w.cell? ⟨G,1,none⟩ = some (.int .i64 0)
  c2:w.cell? ⟨G,2,none⟩ = some (.string ⟨#[]⟩)
  c3:w.cell? ⟨G,3,none⟩ = some (.pointer none)
  c4:w.cell? ⟨G,4,none⟩ = some (.slice none 0 0)
  c5:w.cell? ⟨G,5,none⟩ = some (.int .i64 sz)
  map:∀ j,j < 256 -> w.cell? ⟨G,6 + j,none⟩ = some (.int .u8 (f j))
  fr:∀ i:Nat,w.frozen? ⟨G,i,none⟩ = false
theorem zero_gen:Tryz.zeroCells245.toList = [.string ⟨#[]⟩,.int .i64 0,.string ⟨#[]⟩,.pointer none,.slice none 0 0,.int .i64 0] ++ List.replicate 256 (.int .u8 0):=by kernel_rfl
theorem GSt.new (w:World):GSt w.heap.size w w.heap.size 0 (fun _=>0) (w.alloc (.cells Tryz.zeroCells245 245)):=by
 have key:∀ i:Nat,(w.alloc (.cells Tryz.zeroCells245 245)).cell? ⟨w.heap.size,i,none⟩ = ([Value.string ⟨#[]⟩,.int .i64 0,.string ⟨#[]⟩,.pointer none,.slice none 0 0,.int .i64 0] ++ List.replicate 256 (.int .u8 0))[i]?:=by
  intro i;rw [World.cell?_alloc_at _ _ _ _ rfl,<- Array.getElem?_toList,zero_gen]
 refine ⟨(Below.refl _ w).alloc (Nat.le_refl _) _,Nat.le_refl _,key 0,key 1,key 2,key 3,key 4,key 5,fun j hj=>?_,fun i=>World.frozen?_alloc_at _ _ _ _ rfl⟩;rw [key,List.getElem?_append_right (by show 6 <= 6 + j;omega),List.getElem?_replicate];exact if_pos (by show 6 + j - 6 < 256;omega)
section
variable {B G sz:Nat} {W0 w w':World} {f:Nat -> Nat}
theorem GSt.lt (h:GSt B W0 G sz f w):G < w.heap.size:=World.block_lt_of_cell? w _ h.c0
theorem GSt.put (h:GSt B W0 G sz f w) (j v:Nat) (hj:j < 256):GSt B W0 G sz (fun i=>if i = j then v else f i) (w.setCell ⟨G,6 + j,none⟩ (.int .u8 v)):=by
 have ne:∀ i:Nat,i < 6 -> (w.setCell ⟨G,6 + j,none⟩ (.int .u8 v)).cell? ⟨G,i,none⟩ = w.cell? ⟨G,i,none⟩:=fun i hi=>World.cell?_setCell_other _ _ _ _ (ne_off (by omega))
 refine ⟨h.below.setCell h.lo _,h.lo,(ne 0 (by omega)).trans h.c0,(ne 1 (by omega)).trans h.c1,(ne 2 (by omega)).trans h.c2,(ne 3 (by omega)).trans h.c3,(ne 4 (by omega)).trans h.c4,(ne 5 (by omega)).trans h.c5,fun i hi=>?_,fun i=>by rw [World.frozen?_setCell];exact h.fr i⟩
 by_cases e:i = j
 ·subst e;rw [if_pos rfl];exact World.cell?_setCell_same _ _ _ (h.map i hi)
 ·rw [if_neg e];exact (World.cell?_setCell_other _ _ _ _ (ne_off (by omega))).trans (h.map i hi)
theorem GSt.count (h:GSt B W0 G sz f w) (s':Nat):GSt B W0 G s' f (w.setCell ⟨G,5,none⟩ (.int .i64 s')):=by
 have ne:∀ i:Nat,i ≠ 5 -> (w.setCell ⟨G,5,none⟩ (.int .i64 s')).cell? ⟨G,i,none⟩ = w.cell? ⟨G,i,none⟩:=fun i hi=>World.cell?_setCell_other _ _ _ _ (ne_off (Ne.symm hi))
 exact ⟨h.below.setCell h.lo _,h.lo,(ne 0 (by omega)).trans h.c0,(ne 1 (by omega)).trans h.c1,(ne 2 (by omega)).trans h.c2,(ne 3 (by omega)).trans h.c3,(ne 4 (by omega)).trans h.c4,World.cell?_setCell_same _ _ _ h.c5,fun i hi=>(ne _ (by omega)).trans (h.map i hi),fun i=>by rw [World.frozen?_setCell];exact h.fr i⟩
theorem GSt.drewN (h:GSt B W0 G sz f w) (n:Nat):GSt B W0 G sz f (w.drewN n):=⟨h.below.trans ⟨rfl,rfl,rfl,Nat.le_refl _,fun _ _=>rfl⟩,h.lo,h.c0,h.c1,h.c2,h.c3,h.c4,h.c5,h.map,h.fr⟩
theorem GSt.ext {g:Nat -> Nat} (h:GSt B W0 G sz f w) (e:∀ j,j < 256 -> f j = g j):GSt B W0 G sz g w:=⟨h.below,h.lo,h.c0,h.c1,h.c2,h.c3,h.c4,h.c5,fun j hj=>by rw [h.map j hj,e j hj],h.fr⟩
theorem GSt.cell (h:GSt B W0 G sz f w) (c:UInt8):w.cell? ⟨G,6 + c.toNat,none⟩ = some (.int .u8 (f c.toNat)):=h.map _ (chr_lt c)
def mapL (f:Nat -> Nat):List Value:=(List.range 256).map fun j=>.int .u8 (f j)
theorem mapL_length (f:Nat -> Nat):(mapL f).length = 256:=by simp [mapL]
theorem GSt.range (h:GSt B W0 G sz f w):w.rangeAt G 6 (mapL f):=by
 intro j v hv
 have hj:j < 256:=by
  have:=(List.getElem?_eq_some_iff.1 hv).1
  rwa [mapL_length] at this
 rw [h.map j hj];simp [mapL,hj] at hv;rw [hv]
end
end Go.Proofs.YtmgpmdfmkdhfgaaGreatDoor
