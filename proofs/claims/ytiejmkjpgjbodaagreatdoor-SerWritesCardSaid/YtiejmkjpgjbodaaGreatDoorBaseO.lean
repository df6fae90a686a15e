/- More of the first texts of this claim in one: each with its own head. No statement is proved here. -/
import Derived.Test.YtiejmkjpgjbodaaGreatDoorBaseN
import Derived.Test.YtiejmkjpgjbodaaGreatDoorBaseM
import Derived.Deep.WholeRow
import Derived.Lib.SliceRun
import Derived.Deep.MidRow
import Derived.StillTailTactics
import Derived.Test.YtiejmkjpgjbodaaGreatDoorShelf
import Derived.Maps.Own
import Derived.Maps.OwnSet
import Derived.Maps.Views
import Derived.Lib.SlTrimSet
import Derived.Shelf.Strings.SlTrimAscii
import Derived.Lib.OthersKept
import Derived.Deep.Cut
namespace Go.Proofs.YtiejmkjpgjbodaaGreatDoor
open Go.RowKit
set_option linter.unusedVariables false
set_option linter.unusedSimpArgs false
set_option maxRecDepth 100000
set_option maxHeartbeats 16000000
def leafW (w:World) (b:Nat) (val:ByteArray) (p:Int):World:=(w.setCell ⟨b,0,none⟩ (.string val)).setCell ⟨b,1,none⟩ (.int .i64 p)
theorem add_leaf (b:Nat) (val v0:ByteArray) (p:Int) (g:Addr) (w:World) (c0:w.cell? ⟨b,0,none⟩ = some (.string v0)) (c1:w.cell? ⟨b,1,none⟩ = some (.int .i64 0)) (f:∀ i:Nat,w.frozen? ⟨b,i,none⟩ = false) :
  Calls Tryz.prog 243 #[.pointer (some ⟨b,0,none⟩),.string ⟨#[]⟩,.string val,.int .i64 p,.pointer (some g)] w fun e w'=>e = .returned (.tuple #[]) /\ w' = leafW w b val p:=by
 have f0:=f 0;have f1:=f 1;have c1':(w.setCell ⟨b,0,none⟩ (.string val)).cell? ⟨b,1,none⟩ = some (.int .i64 0):=(World.cell?_setCell_other _ _ _ _ (by intro e;injection e with _ e _;exact absurd e (by decide))).trans c1;have f1':(w.setCell ⟨b,0,none⟩ (.string val)).frozen? ⟨b,1,none⟩ = false:=by rw [World.frozen?_setCell];exact f1
 clear f;go_enter Tryz.func243,Tryz.ntmps243;go_wp2_with fail;refine bodyPost_ret (results_none rfl _ _ _) rfl ?_;exact ⟨rfl,rfl⟩
def preW (w:World) (b:Nat) (key:ByteArray):World:=((w.setCell ⟨b,2,none⟩ (.string key)).setCell ⟨b,3,none⟩ (.pointer (some ⟨w.heap.size,0,none⟩))).alloc (.cells #[.string ⟨#[]⟩,.int .i64 0,.string ⟨#[]⟩,.pointer none,.slice none 0 0] 256)
theorem pre_size (w:World) (b:Nat) (key:ByteArray) (x:Value):((w.setCell ⟨b,2,none⟩ (.string key)).setCell ⟨b,3,none⟩ x).heap.size = w.heap.size:=by simp [World.setCell]
theorem add_pre (b:Nat) (key val:ByteArray) (x3:Value) (p:Int) (g:Addr) (w:World) (hb:b < w.heap.size) (hk:key.toList.isEmpty = false) (c2:w.cell? ⟨b,2,none⟩ = some (.string ⟨#[]⟩)) (c3:w.cell? ⟨b,3,none⟩ = some x3) (c4:w.cell? ⟨b,4,none⟩ = some (.slice none 0 0)) (f:∀ i:Nat,w.frozen? ⟨b,i,none⟩ = false) :
  Calls Tryz.prog 243 #[.pointer (some ⟨b,0,none⟩),.string key,.string val,.int .i64 p,.pointer (some g)] w fun e w'=>e = .returned (.tuple #[]) /\ w' = leafW (preW w b key) w.heap.size val p:=by
 have f2:=f 2;have f3:=f 3;have HC:=hide (add_leaf w.heap.size val ⟨#[]⟩ p g (preW w b key) (by rw [preW,World.cell?_alloc_at _ _ _ _ (pre_size _ _ _ _).symm];rfl) (by rw [preW,World.cell?_alloc_at _ _ _ _ (pre_size _ _ _ _).symm];rfl) (fun i=>by rw [preW];exact World.frozen?_alloc_at _ _ _ _ (pre_size _ _ _ _).symm));clear f;go_enter Tryz.func243,Tryz.ntmps243;go_wp2_with (go_at_call 243;refine HC.out.mono ?_;rintro e w5 ⟨rfl,rfl⟩);go_end0;exact ⟨rfl,rfl⟩
def tabW (w:World) (T m:Nat):World:=(w.alloc (.cells #[.string ⟨#[]⟩,.int .i64 0,.string ⟨#[]⟩,.pointer none,.slice none 0 0] 256)).setCell ⟨T,m,none⟩ (.pointer (some ⟨w.heap.size,0,none⟩))
theorem add_root (G T m:Nat) (s val:ByteArray) (p:Int) (w:World) (W5:Nat -> World) (hT:T < w.heap.size) (h0:0 < s.size) (m5:m < 5) (c2:w.cell? ⟨G,2,none⟩ = some (.string ⟨#[]⟩)) (c4:w.cell? ⟨G,4,none⟩ = some (.slice (some ⟨T,0,none⟩) 5 5))
  (cm:w.cell? ⟨G,6 + s[0].toNat,none⟩ = some (.int .u8 (m:Int))) (ct:w.cell? ⟨T,m,none⟩ = some (.pointer none)) (ft:w.frozen? ⟨T,m,none⟩ = false) (hGT:G ≠ T)
  (hin:∀ k,Calls Tryz.prog 243 #[.pointer (some ⟨w.heap.size,0,none⟩),.string (s.extract 1 s.size),.string val,.int .i64 p,.pointer (some ⟨G,0,none⟩)] ((tabW w T m).drewN k) fun e w'=>e = .returned (.tuple #[]) /\ w' = W5 k) :
  Calls Tryz.prog 243 #[.pointer (some ⟨G,0,none⟩),.string s,.string val,.int .i64 p,.pointer (some ⟨G,0,none⟩)] w fun e w'=>e = .returned (.tuple #[]) /\ ∃ k,w' = W5 k:=by
 have q1:s.toList.isEmpty = false:=by
  rw [bytes_list];cases e:s.data.toList with
  | nil=>rw [<- toList_length,e] at h0;exact absurd h0 (Nat.lt_irrefl _)
  | cons a r=>rfl
 have k1:(1:Int) <= s.size:=by omega
 have b1:s[0].toNat < 256:=chr_lt _;have b2:(s[0].toNat:Int) < 256:=by omega
 have m5':(m:Int) < 5:=by omega
 have lG:=World.block_lt_of_cell? w _ c4
 have HX:Hid (∀ k,((w.drewN k).alloc (.cells #[.string ⟨#[]⟩,.int .i64 0,.string ⟨#[]⟩,.pointer none,.slice none 0 0] 256)).cell? ⟨T,m,none⟩ = some (.pointer none) /\ ((w.drewN k).alloc (.cells #[.string ⟨#[]⟩,.int .i64 0,.string ⟨#[]⟩,.pointer none,.slice none 0 0] 256)).frozen? ⟨T,m,none⟩ = false /\ ((w.drewN k).alloc (.cells #[.string ⟨#[]⟩,.int .i64 0,.string ⟨#[]⟩,.pointer none,.slice none 0 0] 256)).cell? ⟨G,4,none⟩ = some (.slice (some ⟨T,0,none⟩) 5 5)):=hide fun k =>
  ⟨(World.cell?_alloc_past _ _ _ (show T < (w.drewN k).heap.size from hT)).trans ct,(World.frozen?_alloc_past _ _ _ (show T < (w.drewN k).heap.size from hT)).trans ft,(World.cell?_alloc_past _ _ _ (show G < (w.drewN k).heap.size from lG)).trans c4⟩
 have HIN:=hide hin;clear hin;go_enter Tryz.func243,Tryz.ntmps243;go_wp2_with fail;go_quiet (fail);obtain ⟨x1,x2,x3⟩:=HX.out nq;go_wp2_with fail;have hTG:¬T = G:=fun e=>hGT e.symm
 go_region_with (go_at_call 243;refine (HIN.out (nq + 1)).mono ?_;rintro e w5 ⟨rfl,rfl⟩)
 all_goals
  try go_wp2_with fail
  go_end0;exact ⟨rfl,_,rfl⟩
def nilS:Value:=.slice none 0 0
def RepSt (w0:World) (R G:Nat) (c34 c92:Value) (l:Nat) (x y:ByteArray) (wr:World):Prop :=
  Below w0.heap.size w0 wr /\ w0.heap.size <= R /\ w0.heap.size <= G /\ R ≠ G /\
  (∀ i:Nat,i < 256 -> wr.cell? ⟨R,i,none⟩ = some (if i = 34 then c34 else if i = 92 then c92 else nilS)) /\ (∀ i:Nat,wr.frozen? ⟨R,i,none⟩ = false) /\
  wr.cell? ⟨R,256,none⟩ = some (.slice (some ⟨G,0,none⟩) l 2) /\ wr.cell? ⟨G,0,none⟩ = some (.string x) /\ wr.cell? ⟨G,1,none⟩ = some (.string y) /\ (∀ i:Nat,wr.frozen? ⟨G,i,none⟩ = false)
def TwoAt (w:World) (g:Nat) (x y:Int) (B:Nat):Prop:=w.cell? ⟨g,0,none⟩ = some (.int .u8 x) /\ w.cell? ⟨g,1,none⟩ = some (.int .u8 y) /\ B + 2 <= g
theorem ne_off {g i j:Nat} (h:i ≠ j):(⟨g,i,none⟩:Addr) ≠ ⟨g,j,none⟩:=fun e=>h (by injection e)
theorem ne_blk {g g' i j:Nat} (h:g ≠ g'):(⟨g,i,none⟩:Addr) ≠ ⟨g',j,none⟩:=fun e=>h (by injection e)
section
variable {w0 wr:World} {R G l:Nat} {c34 c92:Value} {x y:ByteArray}
theorem RepSt.ltR (h:RepSt w0 R G c34 c92 l x y wr):R < wr.heap.size:=World.block_lt_of_cell? wr _ h.2.2.2.2.2.2.1
theorem RepSt.ltG (h:RepSt w0 R G c34 c92 l x y wr):G < wr.heap.size:=World.block_lt_of_cell? wr _ h.2.2.2.2.2.2.2.1
theorem RepSt.below (h:RepSt w0 R G c34 c92 l x y wr):Below w0.heap.size w0 wr:=h.1
theorem RepSt.kept {w':World} (h:RepSt w0 R G c34 c92 l x y wr) (hb:Below wr.heap.size wr w'):RepSt w0 R G c34 c92 l x y w':=by
 have lR:=h.ltR;have lG:=h.ltG;obtain ⟨B0,hR,hG,hne,hc,hf,h256,hG0,hG1,hfG⟩:=h
 exact ⟨B0.trans (hb.mono (Nat.le_of_lt (Nat.lt_of_le_of_lt hR lR))),hR,hG,hne,fun i hi=>(hb.cell (p:=⟨R,i,none⟩) lR).trans (hc i hi),fun i=>(hb.frozen (p:=⟨R,i,none⟩) lR).trans (hf i),
  (hb.cell (p:=⟨R,256,none⟩) lR).trans h256,(hb.cell (p:=⟨G,0,none⟩) lG).trans hG0,(hb.cell (p:=⟨G,1,none⟩) lG).trans hG1,fun i=>(hb.frozen (p:=⟨G,i,none⟩) lG).trans (hfG i)⟩
theorem RepSt.alloc (h:RepSt w0 R G c34 c92 l x y wr) (o:Obj):RepSt w0 R G c34 c92 l x y (wr.alloc o):=h.kept ((Below.refl _ wr).alloc (Nat.le_refl _) _)
end
theorem TwoAt.set {w:World} {g B:Nat} {x y:Int} (h:TwoAt w g x y B) {p:Addr} (hp:p.block ≠ g) (v:Value):TwoAt (w.setCell p v) g x y B :=
 ⟨(World.cell?_setCell_other _ _ _ _ (fun e=>hp (by rw [e]))).trans h.1,(World.cell?_setCell_other _ _ _ _ (fun e=>hp (by rw [e]))).trans h.2.1,h.2.2⟩
theorem TwoAt.kept {w w':World} {g B:Nat} {x y:Int} (h:TwoAt w g x y B) (hb:Below w.heap.size w w'):TwoAt w' g x y B:=by
 have lg:g < w.heap.size:=World.block_lt_of_cell? w _ h.1;exact ⟨(hb.cell (p:=⟨g,0,none⟩) lg).trans h.1,(hb.cell (p:=⟨g,1,none⟩) lg).trans h.2.1,h.2.2⟩
theorem TwoAt.alloc {w:World} {g B:Nat} {x y:Int} (h:TwoAt w g x y B) (o:Obj):TwoAt (w.alloc o) g x y B:=h.kept ((Below.refl _ w).alloc (Nat.le_refl _) _)
def RepEnd (w0:World) (R:Nat) (wr:World):Prop :=
  ∃ G g1 c1 g2 c2:Nat,RepSt w0 R G (.slice (some ⟨g1,0,none⟩) 2 c1) (.slice (some ⟨g2,0,none⟩) 2 c2) 2 ⟨#[92]⟩ ⟨#[34]⟩ wr /\ TwoAt wr g1 92 34 w0.heap.size /\ TwoAt wr g2 92 92 w0.heap.size
theorem RepEnd.below {w0 wr:World} {R:Nat} (h:RepEnd w0 R wr):Below w0.heap.size w0 wr:=by obtain ⟨_,_,_,_,_,h,_⟩:=h;exact h.below
theorem RepEnd.kept {w0 wr w':World} {R:Nat} (h:RepEnd w0 R wr) (hb:Below wr.heap.size wr w'):RepEnd w0 R w':=by
 obtain ⟨G,g1,c1,g2,c2,h,t1,t2⟩:=h;exact ⟨G,g1,c1,g2,c2,h.kept hb,t1.kept hb,t2.kept hb⟩
def RepAt (W:World) (b R:Nat) (wr:World):Prop :=
  ∃ G g1 c1 g2 c2:Nat,RepSt W R G (.slice (some ⟨g1,0,none⟩) 2 c1) (.slice (some ⟨g2,0,none⟩) 2 c2) 2 ⟨#[92]⟩ ⟨#[34]⟩ wr /\ TwoAt wr g1 92 34 0 /\ TwoAt wr g2 92 92 0 /\ W.heap.size <= b /\ b < R /\ b < G /\ b < g1 /\ b < g2
theorem RepEnd.at {W w0 wr:World} {R b:Nat} (h:RepEnd w0 R wr) (hb:Below W.heap.size W w0) (hW:W.heap.size <= b) (hl:b < w0.heap.size):RepAt W b R wr:=by
 obtain ⟨G,g1,c1,g2,c2,⟨B0,hR,hG,hr⟩,t1,t2⟩:=h;exact ⟨G,g1,c1,g2,c2,⟨hb.trans (B0.mono hb.size),Nat.le_trans hb.size hR,Nat.le_trans hb.size hG,hr⟩,⟨t1.1,t1.2.1,by have:=t1.2.2;omega⟩,⟨t2.1,t2.2.1,by have:=t2.2.2;omega⟩,hW,by omega,by omega,by have:=t1.2.2;omega,by have:=t2.2.2;omega⟩
theorem RepAt.below {W wr:World} {b R:Nat} (h:RepAt W b R wr):Below W.heap.size W wr:=by obtain ⟨_,_,_,_,_,h,_⟩:=h;exact h.below
theorem RepAt.set {W wr:World} {b R:Nat} (h:RepAt W b R wr) (i:Nat) (v:Value):RepAt W b R (wr.setCell ⟨b,i,none⟩ v):=by
 obtain ⟨G,g1,c1,g2,c2,⟨B0,hR,hG,hne,hc,hf,h256,hG0,hG1,hfG⟩,t1,t2,hW,l1,l2,l3,l4⟩:=h;have nR:b ≠ R:=Nat.ne_of_lt l1;have nG:b ≠ G:=Nat.ne_of_lt l2
 exact ⟨G,g1,c1,g2,c2,⟨B0.setCell hW _,hR,hG,hne,fun j hj=>(World.cell?_setCell_other _ _ _ _ (ne_blk nR)).trans (hc j hj),fun j=>by rw [World.frozen?_setCell];exact hf j,
  (World.cell?_setCell_other _ _ _ _ (ne_blk nR)).trans h256,(World.cell?_setCell_other _ _ _ _ (ne_blk nG)).trans hG0,(World.cell?_setCell_other _ _ _ _ (ne_blk nG)).trans hG1,fun j=>by rw [World.frozen?_setCell];exact hfG j⟩,
  t1.set (p:=⟨b,i,none⟩) (Nat.ne_of_lt l3) v,t2.set (p:=⟨b,i,none⟩) (Nat.ne_of_lt l4) v,hW,l1,l2,l3,l4⟩
theorem RepAt.kept {W wr w':World} {b R:Nat} (h:RepAt W b R wr) (hb:Below wr.heap.size wr w'):RepAt W b R w':=by
 obtain ⟨G,g1,c1,g2,c2,h,t1,t2,hr⟩:=h;exact ⟨G,g1,c1,g2,c2,h.kept hb,t1.kept hb,t2.kept hb,hr⟩
theorem RepAt.drew {W wr:World} {b R:Nat} (h:RepAt W b R wr):RepAt W b R wr.drew:=h.kept ((Below.refl _ wr).drew)
theorem RepSt.start (w:World) (t1 t2:TypeId):RepSt w (w.heap.size + 1) w.heap.size nilS nilS 0 ⟨#[]⟩ ⟨#[]⟩
  ((w.alloc (.cells #[.string ⟨#[]⟩,.string ⟨#[]⟩] t1)).alloc (.cells (List.replicate 256 nilS ++ [Value.slice (some ⟨w.heap.size,0,none⟩) 0 2]).toArray t2)):=by
 have es:(w.alloc (.cells #[.string ⟨#[]⟩,.string ⟨#[]⟩] t1)).heap.size = w.heap.size + 1:=World.size_alloc ..;have lG:w.heap.size < (w.alloc (.cells #[.string ⟨#[]⟩,.string ⟨#[]⟩] t1)).heap.size:=by rw [es];omega
 refine ⟨((Below.refl _ w).alloc (Nat.le_refl _) _).alloc (Nat.le_of_lt lG) _,Nat.le_succ _,Nat.le_refl _,by omega,fun i hi=>?_,fun i=>?_,?_,?_,?_,fun i=>?_⟩
 ·rw [World.cell?_alloc_at _ _ _ _ es.symm,List.getElem?_toArray,List.getElem?_append_left (by rw [List.length_replicate];exact hi),List.getElem?_replicate,if_pos hi];simp
 ·exact World.frozen?_alloc_at _ _ _ _ es.symm
 ·rw [World.cell?_alloc_at _ _ _ _ es.symm,List.getElem?_toArray,List.getElem?_append_right (by rw [List.length_replicate];exact Nat.le_refl _),List.length_replicate];rfl
 ·rw [World.cell?_alloc_past _ _ _ lG,World.cell?_alloc_at _ _ _ _ rfl];rfl
 ·rw [World.cell?_alloc_past _ _ _ lG,World.cell?_alloc_at _ _ _ _ rfl];rfl
 ·rw [World.frozen?_alloc_past _ _ _ lG];exact World.frozen?_alloc_at _ _ _ _ rfl
def keyE (k:Nat):ByteArray:=match k with | 0=>⟨#[38]⟩ | 1=>⟨#[60]⟩ | 2=>⟨#[62]⟩ | _=>⟨#[194,160]⟩
def valE (k:Nat):ByteArray:=match k with | 0=>str ampT | 1=>str ltT | 2=>str gtT | _=>str nbT
def OldNewE (g:Nat) (w:World):Prop:=∀ k,k < 4 -> w.cell? ⟨g,2 * k,none⟩ = some (.string (keyE k)) /\ w.cell? ⟨g,2 * k + 1,none⟩ = some (.string (valE k))
theorem OldNewE.kept {g:Nat} {w w':World} (h:OldNewE g w) (hg:g < w.heap.size) (hb:Below w.heap.size w w'):OldNewE g w':=fun k hk=>⟨(hb.cell (p:=⟨g,2 * k,none⟩) hg).trans (h k hk).1,(hb.cell (p:=⟨g,2 * k + 1,none⟩) hg).trans (h k hk).2⟩
def keysTo (k:Nat):List Nat:=match k with | 0=>[] | 1=>[38] | 2=>[38,60] | 3=>[38,60,62] | _=>[38,60,62,194,160]
def inI (m:List Nat) (j:Nat):Nat:=if j ∈ m then 1 else 0
def cntI (k:Nat):Nat:=(if 38 < k then 1 else 0) + (if 60 < k then 1 else 0) + (if 62 < k then 1 else 0) + (if 160 < k then 1 else 0) + (if 194 < k then 1 else 0)
def tabI (j:Nat):Nat:=if inI [38,60,62,194,160] j = 1 then cntI j else 5
theorem cnt_step:∀ k,k < 256 -> cntI (k + 1) = cntI k + inI [38,60,62,194,160] k:=by decide +kernel
theorem cnt_le:∀ k,k < 257 -> cntI k <= 5:=by decide +kernel
theorem inI_two (m:List Nat) (k:Nat):inI m k = 0 \/ inI m k = 1:=by unfold inI;split <;> simp
theorem tab_map (c:UInt8):tabI c.toNat = mapC c:=u8_all (p:=fun c=>tabI c.toNat = mapC c) (by decide +kernel) c
structure GSt (B:Nat) (W0:World) (G:Nat) (sz:Nat) (f:Nat -> Nat) (w:World):Prop where
  below:Below B W0 w
  lo:B <= G
  c0:w.cell? ⟨G,0,none⟩ = some (.string ⟨#[]⟩)
  c1:w.cell? ⟨G,1,none⟩ = some (.int .i64 0)
  c2:w.cell? ⟨G,2,none⟩ = some (.string ⟨#[]⟩)
  c3:w.cell? ⟨G,3,none⟩ = some (.pointer none)
  c4:w.cell? ⟨G,4,none⟩ = some (.slice none 0 0)
  c5:w.cell? ⟨G,5,none⟩ = some (.int .i64 sz)
  map:∀ j,j < 256 -> w.cell? ⟨G,6 + j,none⟩ = some (.int .u8 (f j))
  fr:∀ i:Nat,w.frozen? ⟨G,i,none⟩ = false
theorem zero_gen:Tryz.zeroCells258.toList = [.string ⟨#[]⟩,.int .i64 0,.string ⟨#[]⟩,.pointer none,.slice none 0 0,.int .i64 0] ++ List.replicate 256 (.int .u8 0):=by kernel_rfl
theorem GSt.new (w:World):GSt w.heap.size w w.heap.size 0 (fun _=>0) (w.alloc (.cells Tryz.zeroCells258 258)):=by
 have key:∀ i:Nat,(w.alloc (.cells Tryz.zeroCells258 258)).cell? ⟨w.heap.size,i,none⟩ = ([Value.string ⟨#[]⟩,.int .i64 0,.string ⟨#[]⟩,.pointer none,.slice none 0 0,.int .i64 0] ++ List.replicate 256 (.int .u8 0))[i]?:=by
  intro i;rw [World.cell?_alloc_at _ _ _ _ rfl,<- Array.getElem?_toList,zero_gen]
 refine ⟨(Below.refl _ w).alloc (Nat.le_refl _) _,Nat.le_refl _,key 0,key 1,key 2,key 3,key 4,key 5,fun j hj=>?_,fun i=>World.frozen?_alloc_at _ _ _ _ rfl⟩;rw [key,List.getElem?_append_right (by show 6 <= 6 + j;omega),List.getElem?_replicate];exact if_pos (by show 6 + j - 6 < 256;omega)
section
variable {B G sz:Nat} {W0 w w':World} {f:Nat -> Nat}
theorem GSt.lt (h:GSt B W0 G sz f w):G < w.heap.size:=World.block_lt_of_cell? w _ h.c0
theorem GSt.put (h:GSt B W0 G sz f w) (j v:Nat) (hj:j < 256):GSt B W0 G sz (fun i=>if i = j then v else f i) (w.setCell ⟨G,6 + j,none⟩ (.int .u8 v)):=by
 have ne:∀ i:Nat,i < 6 -> (w.setCell ⟨G,6 + j,none⟩ (.int .u8 v)).cell? ⟨G,i,none⟩ = w.cell? ⟨G,i,none⟩:=fun i hi=>World.cell?_setCell_other _ _ _ _ (ne_off (by omega))
 refine ⟨h.below.setCell h.lo _,h.lo,(ne 0 (by omega)).trans h.c0,(ne 1 (by omega)).trans h.c1,(ne 2 (by omega)).trans h.c2,(ne 3 (by omega)).trans h.c3,(ne 4 (by omega)).trans h.c4,(ne 5 (by omega)).trans h.c5,fun i hi=>?_,fun i=>by rw [World.frozen?_setCell];exact h.fr i⟩
 by_cases e:i = j
 ·subst e;rw [if_pos rfl];exact World.cell?_setCell_same _ _ _ (h.map i hi)
 ·rw [if_neg e];exact (World.cell?_setCell_other _ _ _ _ (ne_off (by omega))).trans (h.map i hi)
theorem GSt.count (h:GSt B W0 G sz f w) (s':Nat):GSt B W0 G s' f (w.setCell ⟨G,5,none⟩ (.int .i64 s')):=by
 have ne:∀ i:Nat,i ≠ 5 -> (w.setCell ⟨G,5,none⟩ (.int .i64 s')).cell? ⟨G,i,none⟩ = w.cell? ⟨G,i,none⟩:=fun i hi=>World.cell?_setCell_other _ _ _ _ (ne_off (Ne.symm hi))
 exact ⟨h.below.setCell h.lo _,h.lo,(ne 0 (by omega)).trans h.c0,(ne 1 (by omega)).trans h.c1,(ne 2 (by omega)).trans h.c2,(ne 3 (by omega)).trans h.c3,(ne 4 (by omega)).trans h.c4,World.cell?_setCell_same _ _ _ h.c5,fun i hi=>(ne _ (by omega)).trans (h.map i hi),fun i=>by rw [World.frozen?_setCell];exact h.fr i⟩
theorem GSt.drewN (h:GSt B W0 G sz f w) (n:Nat):GSt B W0 G sz f (w.drewN n):=⟨h.below.trans ⟨rfl,rfl,rfl,Nat.le_refl _,fun _ _=>rfl⟩,h.lo,h.c0,h.c1,h.c2,h.c3,h.c4,h.c5,h.map,h.fr⟩
theorem GSt.ext {g:Nat -> Nat} (h:GSt B W0 G sz f w) (e:∀ j,j < 256 -> f j = g j):GSt B W0 G sz g w:=⟨h.below,h.lo,h.c0,h.c1,h.c2,h.c3,h.c4,h.c5,fun j hj=>by rw [h.map j hj,e j hj],h.fr⟩
theorem GSt.cell (h:GSt B W0 G sz f w) (c:UInt8):w.cell? ⟨G,6 + c.toNat,none⟩ = some (.int .u8 (f c.toNat)):=h.map _ (chr_lt c)
def mapL (f:Nat -> Nat):List Value:=(List.range 256).map fun j=>.int .u8 (f j)
theorem mapL_length (f:Nat -> Nat):(mapL f).length = 256:=by simp [mapL]
theorem GSt.range (h:GSt B W0 G sz f w):w.rangeAt G 6 (mapL f):=by
 intro j v hv
 have hj:j < 256:=by
  have:=(List.getElem?_eq_some_iff.1 hv).1
  rwa [mapL_length] at this
 rw [h.map j hj];simp [mapL,hj] at hv;rw [hv]
end
def nodeZ:Obj:=.cells #[.string ⟨#[]⟩,.int .i64 0,.string ⟨#[]⟩,.pointer none,.slice none 0 0] 256
structure Hung (T m n:Nat) (w w':World):Prop where
  size:w.heap.size < w'.heap.size
  mine:w.heap.size <= n /\ n < w'.heap.size
  hit:w'.cell? ⟨T,m,none⟩ = some (.pointer (some ⟨n,0,none⟩))
  tab:∀ j:Nat,j ≠ m -> w'.cell? ⟨T,j,none⟩ = w.cell? ⟨T,j,none⟩
  cell:∀ b o:Nat,b ≠ T -> b < w.heap.size -> w'.cell? ⟨b,o,none⟩ = w.cell? ⟨b,o,none⟩
  fr:∀ b o:Nat,b < w.heap.size -> w'.frozen? ⟨b,o,none⟩ = w.frozen? ⟨b,o,none⟩
  below:∀ B:Nat,B <= T -> B <= w.heap.size -> Below B w w'
theorem Hung.node {T m n b:Nat} {w w':World} (h:Hung T m n w w') (hT:b ≠ T) (hb:b < w.heap.size) {val pre:ByteArray} {prio:Int} {nx:Option Addr} {tab:Value} (hn:Node w b val prio pre nx tab):Node w' b val prio pre nx tab:=by
 obtain ⟨a0,a1,a2,a3,a4⟩:=hn;exact ⟨(h.cell b 0 hT hb).trans a0,(h.cell b 1 hT hb).trans a1,(h.cell b 2 hT hb).trans a2,(h.cell b 3 hT hb).trans a3,(h.cell b 4 hT hb).trans a4⟩
theorem z_set (w:World) (p:Addr) (x:Value):(w.setCell p x).heap.size = w.heap.size:=by simp [World.setCell]
theorem z_all (w:World) (o:Obj):(w.alloc o).heap.size = w.heap.size + 1:=World.size_alloc ..
theorem z_tab (w:World) (T m:Nat) (k:Nat):((tabW w T m).drewN k).heap.size = w.heap.size + 1:=by
 show (tabW w T m).heap.size = _
 rw [tabW,z_set,z_all]
theorem new_cell (w:World) (o:Nat):(w.alloc nodeZ).cell? ⟨w.heap.size,o,none⟩ = (#[Value.string ⟨#[]⟩,.int .i64 0,.string ⟨#[]⟩,.pointer none,.slice none 0 0]:Array Value)[o]?:=by
 rw [nodeZ,World.cell?_alloc_at _ _ _ _ rfl]
theorem tab_node (w:World) (T m k:Nat) (hT:T < w.heap.size) (o:Nat):((tabW w T m).drewN k).cell? ⟨w.heap.size,o,none⟩ = (#[Value.string ⟨#[]⟩,.int .i64 0,.string ⟨#[]⟩,.pointer none,.slice none 0 0]:Array Value)[o]?:=by
 show (tabW w T m).cell? _ = _
 rw [tabW,World.cell?_setCell_other _ _ _ _ (ne_blk (by omega))];exact new_cell w o
theorem tab_free (w:World) (T m k:Nat) (o:Nat):((tabW w T m).drewN k).frozen? ⟨w.heap.size,o,none⟩ = false:=by
 show (tabW w T m).frozen? _ = _
 rw [tabW,World.frozen?_setCell];exact World.frozen?_alloc_at _ _ _ _ rfl
theorem tab_hung (w:World) (T m k:Nat) (hT:T < w.heap.size) (ct:w.cell? ⟨T,m,none⟩ = some (.pointer none)):Hung T m w.heap.size w ((tabW w T m).drewN k):=by
 refine ⟨by rw [z_tab];omega,⟨Nat.le_refl _,by rw [z_tab];omega⟩,?_,?_,?_,?_,?_⟩
 ·show (tabW w T m).cell? _ = _
  rw [tabW];exact World.cell?_setCell_same _ _ _ ((World.cell?_alloc_past _ _ _ hT).trans ct)
 ·intro j hj;show (tabW w T m).cell? _ = _
  rw [tabW,World.cell?_setCell_other _ _ _ _ (ne_off (Ne.symm hj)),World.cell?_alloc_past _ _ _ hT]
 ·intro b o hb hl;show (tabW w T m).cell? _ = _
  rw [tabW,World.cell?_setCell_other _ _ _ _ (ne_blk (Ne.symm hb)),World.cell?_alloc_past _ _ _ hl]
 ·intro b o hl;show (tabW w T m).frozen? _ = _
  rw [tabW,World.frozen?_setCell,World.frozen?_alloc_past _ _ _ hl]
 ·intro B hB hw;exact (((Below.refl B w).alloc hw _).setCell hB _).trans ⟨rfl,rfl,rfl,Nat.le_refl _,fun _ _=>rfl⟩
theorem leaf_hung {T m n:Nat} {w w1:World} (h:Hung T m n w w1) (b:Nat) (hb:w.heap.size <= b) (hT:T < w.heap.size) (val:ByteArray) (p:Int):Hung T m n w (leafW w1 b val p):=by
 have zz:(leafW w1 b val p).heap.size = w1.heap.size:=by rw [leafW,z_set,z_set]
 have oc:∀ c o:Nat,c < w.heap.size -> (leafW w1 b val p).cell? ⟨c,o,none⟩ = w1.cell? ⟨c,o,none⟩:=fun c o hc=>by
  rw [leafW,World.cell?_setCell_other _ _ _ _ (ne_blk (by omega)),World.cell?_setCell_other _ _ _ _ (ne_blk (by omega))]
 refine ⟨by rw [zz];exact h.size,⟨h.mine.1,by rw [zz];exact h.mine.2⟩,(oc T m hT).trans h.hit,fun j hj=>(oc T j hT).trans (h.tab j hj),fun c o hc hl=>(oc c o hl).trans (h.cell c o hc hl),fun c o hl=>?_,fun B hB hw=>?_⟩
 ·rw [leafW,World.frozen?_setCell,World.frozen?_setCell];exact h.fr c o hl
 ·exact ((h.below B hB hw).setCell (by show B <= b;omega) _).setCell (by show B <= b;omega) _
theorem add_one (G T m:Nat) (s val:ByteArray) (p:Int) (w:World) (h1:s.size = 1) (hT:T < w.heap.size) (m5:m < 5) (c2:w.cell? ⟨G,2,none⟩ = some (.string ⟨#[]⟩)) (c4:w.cell? ⟨G,4,none⟩ = some (.slice (some ⟨T,0,none⟩) 5 5))
  (cm:w.cell? ⟨G,6 + (s[0]'(by omega)).toNat,none⟩ = some (.int .u8 (m:Int))) (ct:w.cell? ⟨T,m,none⟩ = some (.pointer none)) (ft:w.frozen? ⟨T,m,none⟩ = false) (hGT:G ≠ T) :
  Calls Tryz.prog 243 #[.pointer (some ⟨G,0,none⟩),.string s,.string val,.int .i64 p,.pointer (some ⟨G,0,none⟩)] w fun e w'=>e = .returned (.tuple #[]) /\ Hung T m w.heap.size w w' /\ Node w' w.heap.size val p ⟨#[]⟩ none (.slice none 0 0):=by
 have hx:s.extract 1 s.size = ⟨#[]⟩:=by
  apply ext_list;rw [h1,extract_none]
 refine (add_root G T m s val p w (fun k=>leafW ((tabW w T m).drewN k) w.heap.size val p) hT (by omega) m5 c2 c4 cm ct ft hGT (fun k=>?_)).mono ?_
 ·rw [hx];exact add_leaf w.heap.size val ⟨#[]⟩ p ⟨G,0,none⟩ _ (tab_node w T m k hT 0) (tab_node w T m k hT 1) (fun i=>tab_free w T m k i)
 ·rintro e w' ⟨he,k,rfl⟩;refine ⟨he,leaf_hung (tab_hung w T m k hT ct) _ (Nat.le_refl _) hT val p,?_⟩;have t:=tab_node w T m k hT;refine ⟨?_,?_,?_,?_,?_⟩
  ·rw [leafW,World.cell?_setCell_other _ _ _ _ (ne_off (by decide))];exact World.cell?_setCell_same _ _ _ (t 0)
  ·rw [leafW];exact World.cell?_setCell_same _ _ _ ((World.cell?_setCell_other _ _ _ _ (ne_off (by decide))).trans (t 1))
  ·rw [leafW,World.cell?_setCell_other _ _ _ _ (ne_off (by decide)),World.cell?_setCell_other _ _ _ _ (ne_off (by decide))];exact t 2
  ·rw [leafW,World.cell?_setCell_other _ _ _ _ (ne_off (by decide)),World.cell?_setCell_other _ _ _ _ (ne_off (by decide))];exact t 3
  ·rw [leafW,World.cell?_setCell_other _ _ _ _ (ne_off (by decide)),World.cell?_setCell_other _ _ _ _ (ne_off (by decide))];exact t 4
theorem add_two (G T m:Nat) (s val:ByteArray) (p:Int) (w:World) (h2:s.size = 2) (hT:T < w.heap.size) (m5:m < 5) (c2:w.cell? ⟨G,2,none⟩ = some (.string ⟨#[]⟩)) (c4:w.cell? ⟨G,4,none⟩ = some (.slice (some ⟨T,0,none⟩) 5 5))
  (cm:w.cell? ⟨G,6 + (s[0]'(by omega)).toNat,none⟩ = some (.int .u8 (m:Int))) (ct:w.cell? ⟨T,m,none⟩ = some (.pointer none)) (ft:w.frozen? ⟨T,m,none⟩ = false) (hGT:G ≠ T) :
  Calls Tryz.prog 243 #[.pointer (some ⟨G,0,none⟩),.string s,.string val,.int .i64 p,.pointer (some ⟨G,0,none⟩)] w fun e w'=>e = .returned (.tuple #[]) /\ Hung T m w.heap.size w w' /\
   Node w' w.heap.size ⟨#[]⟩ 0 (s.extract 1 s.size) (some ⟨w.heap.size + 1,0,none⟩) (.slice none 0 0) /\ Node w' (w.heap.size + 1) val p ⟨#[]⟩ none (.slice none 0 0) /\ w.heap.size + 1 < w'.heap.size:=by
 have hk:(s.extract 1 s.size).toList.isEmpty = false:=by
  rw [bytes_list];cases e:(s.extract 1 s.size).data.toList with
  | nil =>
   have:=congrArg List.length e;rw [toList_length,ByteArray.size_extract,h2] at this;exact absurd this (by decide)
  | cons a r=>rfl
 refine (add_root G T m s val p w (fun k=>leafW (preW ((tabW w T m).drewN k) w.heap.size (s.extract 1 s.size)) (w.heap.size + 1) val p) hT (by omega) m5 c2 c4 cm ct ft hGT (fun k=>?_)).mono ?_
 ·have:=add_pre w.heap.size (s.extract 1 s.size) val (.pointer none) p ⟨G,0,none⟩ ((tabW w T m).drewN k) (by rw [z_tab];omega) hk (tab_node w T m k hT 2) (tab_node w T m k hT 3) (tab_node w T m k hT 4) (fun i=>tab_free w T m k i);rw [z_tab] at this;exact this
 ·rintro e w' ⟨he,k,rfl⟩;have h0:=tab_hung w T m k hT ct;have t:=tab_node w T m k hT;have zk:=z_tab w T m k;generalize (tabW w T m).drewN k = u at h0 t zk;have ps:((u.setCell ⟨w.heap.size,2,none⟩ (.string (s.extract 1 s.size))).setCell ⟨w.heap.size,3,none⟩ (.pointer (some ⟨u.heap.size,0,none⟩))).heap.size = u.heap.size:=by rw [z_set,z_set]
  have pz:(preW u w.heap.size (s.extract 1 s.size)).heap.size = w.heap.size + 2:=by rw [preW,z_all,ps,zk]
  have oc:∀ c o:Nat,c < w.heap.size -> (preW u w.heap.size (s.extract 1 s.size)).cell? ⟨c,o,none⟩ = u.cell? ⟨c,o,none⟩:=fun c o hc=>by
   rw [preW,World.cell?_alloc_past _ _ _ (by rw [ps,zk];exact Nat.lt_succ_of_lt hc),World.cell?_setCell_other _ _ _ _ (ne_blk (by omega)),World.cell?_setCell_other _ _ _ _ (ne_blk (by omega))]
  have h1:Hung T m w.heap.size w (preW u w.heap.size (s.extract 1 s.size)):=by
   refine ⟨by rw [pz];omega,⟨Nat.le_refl _,by rw [pz];omega⟩,(oc T m hT).trans h0.hit,fun j hj=>(oc T j hT).trans (h0.tab j hj),fun c o hc hl=>(oc c o hl).trans (h0.cell c o hc hl),fun c o hl=>?_,fun B hB hw=>?_⟩
   ·rw [preW,World.frozen?_alloc_past _ _ _ (by rw [ps,zk];exact Nat.lt_succ_of_lt hl),World.frozen?_setCell,World.frozen?_setCell];exact h0.fr c o hl
   ·exact (((h0.below B hB hw).setCell (by show B <= w.heap.size;omega) _).setCell (by show B <= w.heap.size;omega) _).alloc (by rw [ps,zk];omega) _
  have n1:∀ o:Nat,(preW u w.heap.size (s.extract 1 s.size)).cell? ⟨w.heap.size,o,none⟩ = ((u.setCell ⟨w.heap.size,2,none⟩ (.string (s.extract 1 s.size))).setCell ⟨w.heap.size,3,none⟩ (.pointer (some ⟨u.heap.size,0,none⟩))).cell? ⟨w.heap.size,o,none⟩:=fun o=>by
   rw [preW,World.cell?_alloc_past _ _ _ (by rw [ps,zk];exact Nat.lt_succ_self _)]
  have n2:∀ o:Nat,(preW u w.heap.size (s.extract 1 s.size)).cell? ⟨w.heap.size + 1,o,none⟩ = (#[Value.string ⟨#[]⟩,.int .i64 0,.string ⟨#[]⟩,.pointer none,.slice none 0 0]:Array Value)[o]?:=fun o=>by
   rw [preW,World.cell?_alloc_at _ _ _ _ (by rw [ps,zk])]
  have lf:∀ o:Nat,(leafW (preW u w.heap.size (s.extract 1 s.size)) (w.heap.size + 1) val p).cell? ⟨w.heap.size,o,none⟩ = (preW u w.heap.size (s.extract 1 s.size)).cell? ⟨w.heap.size,o,none⟩:=fun o=>by
   rw [leafW,World.cell?_setCell_other _ _ _ _ (ne_blk (by omega)),World.cell?_setCell_other _ _ _ _ (ne_blk (by omega))]
  refine ⟨he,leaf_hung h1 _ (Nat.le_succ _) hT val p,⟨?_,?_,?_,?_,?_⟩,⟨?_,?_,?_,?_,?_⟩,?_⟩
  ·rw [lf,n1,World.cell?_setCell_other _ _ _ _ (ne_off (by decide)),World.cell?_setCell_other _ _ _ _ (ne_off (by decide))];exact t 0
  ·rw [lf,n1,World.cell?_setCell_other _ _ _ _ (ne_off (by decide)),World.cell?_setCell_other _ _ _ _ (ne_off (by decide))];exact t 1
  ·rw [lf,n1,World.cell?_setCell_other _ _ _ _ (ne_off (by decide))];exact World.cell?_setCell_same _ _ _ (t 2)
  ·rw [lf,n1,zk];exact World.cell?_setCell_same _ _ _ ((World.cell?_setCell_other _ _ _ _ (ne_off (by decide))).trans (t 3))
  ·rw [lf,n1,World.cell?_setCell_other _ _ _ _ (ne_off (by decide)),World.cell?_setCell_other _ _ _ _ (ne_off (by decide))];exact t 4
  ·rw [leafW,World.cell?_setCell_other _ _ _ _ (ne_off (by decide))];exact World.cell?_setCell_same _ _ _ (n2 0)
  ·rw [leafW];exact World.cell?_setCell_same _ _ _ ((World.cell?_setCell_other _ _ _ _ (ne_off (by decide))).trans (n2 1))
  ·rw [leafW,World.cell?_setCell_other _ _ _ _ (ne_off (by decide)),World.cell?_setCell_other _ _ _ _ (ne_off (by decide))];exact n2 2
  ·rw [leafW,World.cell?_setCell_other _ _ _ _ (ne_off (by decide)),World.cell?_setCell_other _ _ _ _ (ne_off (by decide))];exact n2 3
  ·rw [leafW,World.cell?_setCell_other _ _ _ _ (ne_off (by decide)),World.cell?_setCell_other _ _ _ _ (ne_off (by decide))];exact n2 4
  ·rw [leafW,z_set,z_set,pz];omega
structure TSt (B:Nat) (W0:World) (G T k:Nat) (w:World):Prop where
  below:Below B W0 w
  lo:B <= G /\ B <= T /\ G ≠ T /\ G < w.heap.size /\ T < w.heap.size /\ B <= w.heap.size
  root:Node w G ⟨#[]⟩ 0 ⟨#[]⟩ none (.slice (some ⟨T,0,none⟩) 5 5)
  size:w.cell? ⟨G,5,none⟩ = some (.int .i64 5)
  map:∀ c:UInt8,w.cell? ⟨G,6 + c.toNat,none⟩ = some (.int .u8 (mapC c))
  fr:∀ i:Nat,w.frozen? ⟨T,i,none⟩ = false
  t3:w.cell? ⟨T,3,none⟩ = some (.pointer none)
  old:∀ j,j < 3 -> (j < k -> ∃ n:Nat,B <= n /\ n < w.heap.size /\ n ≠ T /\ w.cell? ⟨T,j,none⟩ = some (.pointer (some ⟨n,0,none⟩)) /\ Node w n (valE j) (8 - 2 * j) ⟨#[]⟩ none (.slice none 0 0)) /\ (k <= j -> w.cell? ⟨T,j,none⟩ = some (.pointer none))
  t4:(k <= 3 -> w.cell? ⟨T,4,none⟩ = some (.pointer none)) /\ (3 < k -> ∃ n4 n5:Nat,B <= n4 /\ B <= n5 /\ n4 < w.heap.size /\ n5 < w.heap.size /\ w.cell? ⟨T,4,none⟩ = some (.pointer (some ⟨n4,0,none⟩)) /\ Node w n4 ⟨#[]⟩ 0 ⟨#[160]⟩ (some ⟨n5,0,none⟩) (.slice none 0 0) /\ Node w n5 (str nbT) 2 ⟨#[]⟩ none (.slice none 0 0))
theorem TSt.one {B G T k:Nat} {W0 w w':World} (h:TSt B W0 G T k w) (hk:k < 3) (hh:Hung T k w.heap.size w w') (hn:Node w' w.heap.size (valE k) (8 - 2 * k) ⟨#[]⟩ none (.slice none 0 0)):TSt B W0 G T (k + 1) w':=by
 obtain ⟨l1,l2,l3,l4,l5,l6⟩:=h.lo;refine ⟨h.below.trans (hh.below B l2 l6),⟨l1,l2,l3,Nat.lt_trans l4 hh.size,Nat.lt_trans l5 hh.size,Nat.le_trans l6 (Nat.le_of_lt hh.size)⟩,hh.node l3 l4 h.root,(hh.cell G 5 l3 l4).trans h.size,fun c=>(hh.cell G _ l3 l4).trans (h.map c),fun i=>(hh.fr T i l5).trans (h.fr i),(hh.tab 3 (by omega)).trans h.t3,fun j hj=>⟨fun hjk=>?_,fun hjk=>(hh.tab j (by omega)).trans ((h.old j hj).2 (by omega))⟩,fun hk3=>(hh.tab 4 (by omega)).trans (h.t4.1 (by omega)),fun hk3=>absurd hk3 (by omega)⟩
 by_cases e:j = k
 ·subst e;exact ⟨w.heap.size,l6,hh.mine.2,by omega,hh.hit,hn⟩
 ·obtain ⟨n,n1,n2,n3,n4,n5⟩:=(h.old j hj).1 (by omega);exact ⟨n,n1,Nat.lt_trans n2 hh.size,n3,(hh.tab j e).trans n4,hh.node n3 n2 n5⟩
theorem TSt.last {B G T:Nat} {W0 w w':World} (h:TSt B W0 G T 3 w) (hh:Hung T 4 w.heap.size w w') (h4:Node w' w.heap.size ⟨#[]⟩ 0 ⟨#[160]⟩ (some ⟨w.heap.size + 1,0,none⟩) (.slice none 0 0)) (h5:Node w' (w.heap.size + 1) (str nbT) 2 ⟨#[]⟩ none (.slice none 0 0)) (hz:w.heap.size + 1 < w'.heap.size):TSt B W0 G T 4 w':=by
 obtain ⟨l1,l2,l3,l4,l5,l6⟩:=h.lo;refine ⟨h.below.trans (hh.below B l2 l6),⟨l1,l2,l3,Nat.lt_trans l4 hh.size,Nat.lt_trans l5 hh.size,Nat.le_trans l6 (Nat.le_of_lt hh.size)⟩,hh.node l3 l4 h.root,(hh.cell G 5 l3 l4).trans h.size,fun c=>(hh.cell G _ l3 l4).trans (h.map c),fun i=>(hh.fr T i l5).trans (h.fr i),(hh.tab 3 (by omega)).trans h.t3,fun j hj=>⟨fun hjk=>?_,fun hjk=>absurd hjk (by omega)⟩,fun hk3=>absurd hk3 (by omega),fun _=>⟨w.heap.size,w.heap.size + 1,l6,Nat.le_succ_of_le l6,hh.mine.2,hz,hh.hit,h4,h5⟩⟩;obtain ⟨n,n1,n2,n3,n4,n5⟩:=(h.old j hj).1 (by omega);exact ⟨n,n1,Nat.lt_trans n2 hh.size,n3,(hh.tab j (by omega)).trans n4,hh.node n3 n2 n5⟩
def TrieX (B G:Nat) (w:World):Prop:=∃ T n0 n1 n2 n4 n5:Nat,Trie w G T n0 n1 n2 n4 n5 /\ (B <= G /\ B <= T /\ B <= n0 /\ B <= n1 /\ B <= n2 /\ B <= n4 /\ B <= n5) /\ (G < w.heap.size /\ T < w.heap.size /\ n0 < w.heap.size /\ n1 < w.heap.size /\ n2 < w.heap.size /\ n4 < w.heap.size /\ n5 < w.heap.size)
theorem TSt.trie {B G T:Nat} {W0 w:World} (h:TSt B W0 G T 4 w):TrieX B G w:=by
 obtain ⟨l1,l2,l3,l4,l5,l6⟩:=h.lo;obtain ⟨n0,a1,a2,a3,a4,a5⟩:=(h.old 0 (by omega)).1 (by omega);obtain ⟨n1,b1,b2,b3,b4,b5⟩:=(h.old 1 (by omega)).1 (by omega);obtain ⟨n2,c1,c2,c3,c4,c5⟩:=(h.old 2 (by omega)).1 (by omega);obtain ⟨n4,n5,d1,d2,d3,d4,d5,d6,d7⟩:=h.t4.2 (by omega);exact ⟨T,n0,n1,n2,n4,n5,⟨h.root,h.size,h.map,a4,b4,c4,h.t3,d5,a5,b5,c5,d6,d7⟩,⟨l1,l2,a1,b1,c1,d1,d2⟩,⟨l4,l5,a2,b2,c2,d3,d4⟩⟩
theorem TrieX.set {B G b o:Nat} {w:World} (h:TrieX B G w) (hb:b < B) (x:Value):TrieX B G (w.setCell ⟨b,o,none⟩ x):=by
 obtain ⟨T,n0,n1,n2,n4,n5,ht,⟨l0,l1,l2,l3,l4,l5,l6⟩,hi⟩:=h;have key:∀ (c i:Nat),B <= c -> (w.setCell ⟨b,o,none⟩ x).cell? ⟨c,i,none⟩ = w.cell? ⟨c,i,none⟩:=fun c i hc=>World.cell?_setCell_other _ _ _ _ (ne_blk (by omega))
 have kn:∀ {c val prio pre nx tab},B <= c -> Node w c val prio pre nx tab -> Node (w.setCell ⟨b,o,none⟩ x) c val prio pre nx tab:=by
  intro c val prio pre nx tab hc ⟨a0,a1,a2,a3,a4⟩;exact ⟨(key _ _ hc).trans a0,(key _ _ hc).trans a1,(key _ _ hc).trans a2,(key _ _ hc).trans a3,(key _ _ hc).trans a4⟩
 refine ⟨T,n0,n1,n2,n4,n5,⟨kn l0 ht.root,(key _ _ l0).trans ht.size,fun c=>(key _ _ l0).trans (ht.map c),(key _ _ l1).trans ht.t0,(key _ _ l1).trans ht.t1,(key _ _ l1).trans ht.t2,(key _ _ l1).trans ht.t3,(key _ _ l1).trans ht.t4,kn l2 ht.k0,kn l3 ht.k1,kn l4 ht.k2,kn l5 ht.k4,kn l6 ht.k5⟩,⟨l0,l1,l2,l3,l4,l5,l6⟩,?_⟩;rw [z_set];exact hi
theorem TrieX.drew {B G:Nat} {w:World} (h:TrieX B G w):TrieX B G w.drew:=by
 obtain ⟨T,n0,n1,n2,n4,n5,ht,lo,hi⟩:=h;exact ⟨T,n0,n1,n2,n4,n5,⟨ht.1,ht.2,ht.3,ht.4,ht.5,ht.6,ht.7,ht.8,ht.9,ht.10,ht.11,ht.12,ht.13⟩,lo,hi⟩
theorem keyE_size (k:Nat):1 <= (keyE k).size /\ (keyE k).size <= 2:=by
 match k with
 | 0=>decide
 | 1=>decide
 | 2=>decide
 | (k + 3)=>exact ⟨Nat.le_succ 1,Nat.le_refl 2⟩
theorem keys_step (k:Nat) (hk:k < 4):keysTo k ++ (keyE k).data.toList.map UInt8.toNat = keysTo (k + 1):=by
 match k,hk with
 | 0,_=>rfl
 | 1,_=>rfl
 | 2,_=>rfl
 | 3,_=>rfl
theorem inI_snoc (m:List Nat) (c:Nat) (j:Nat):(if j = c then 1 else inI m j) = inI (m ++ [c]) j:=by
 unfold inI
 by_cases h1:j = c
 ·simp [h1]
 ·simp [h1,List.mem_append]
def markI (j:Nat):Nat:=inI [38,60,62,194,160] j
def mixI (k:Nat) (j:Nat):Nat:=if j < k then tabI j else markI j
theorem mix_step (k j:Nat):(if j = k then tabI k else mixI k j) = mixI (k + 1) j:=by
 unfold mixI
 by_cases h:j = k
 ·subst h;rw [if_pos rfl,if_pos (Nat.lt_succ_self _)]
 ·rw [if_neg h]
  by_cases h2:j < k
  ·rw [if_pos h2,if_pos (by omega)]
  ·rw [if_neg h2,if_neg (by omega)]
theorem info_node:(Tryz.prog.info? 253).map (fun i=>(i.zero,i.size,i.bytes)) = some (some (.pointer none),1,8):=by kernel_rfl
theorem made_five (w:World):(Instr.makeSlice 254 (.int .i64 5) (.int .i64 5)).run Tryz.prog w = .ok (.slice (some ⟨w.heap.size,0,none⟩) 5 5) (w.alloc (.cells #[.pointer none,.pointer none,.pointer none,.pointer none,.pointer none] 253)):=by
 obtain ⟨i0,hi,hz0,hz1,hz2⟩:=info_parts info_node;have h:=run_make (P:=Tryz.prog) w 254 253 i0 _ Tryz.underlying254 hi hz0 .i64 .i64 5 5 (by omega) (by omega) (by rw [hz2];omega) (by omega);rw [hz1] at h;rw [h]
 have e:madeCells (Value.pointer none).cells (Int.toNat 5 * 1) = #[.pointer none,.pointer none,.pointer none,.pointer none,.pointer none]:=by
  show madeCells #[Value.pointer none] 5 = _
  have e0:Array.range 0 = (#[]:Array Nat):=by simp [Array.range]
  simp [madeCells,Array.range_succ,e0]
 rw [e];rfl
theorem GSt.table {B G:Nat} {W0 w:World} {f:Nat -> Nat} (h:GSt B W0 G 5 f w) (hB:B <= w.heap.size) (hf:∀ c:UInt8,f c.toNat = mapC c) (t:TypeId) :
  TSt B W0 G w.heap.size 0 ((w.alloc (.cells #[.pointer none,.pointer none,.pointer none,.pointer none,.pointer none] t)).setCell ⟨G,4,none⟩ (.slice (some ⟨w.heap.size,0,none⟩) 5 5)):=by
 have hl:=h.lt;have hz:=z_all w (.cells #[.pointer none,.pointer none,.pointer none,.pointer none,.pointer none] t)
 have og:∀ i:Nat,i ≠ 4 -> ((w.alloc (.cells #[.pointer none,.pointer none,.pointer none,.pointer none,.pointer none] t)).setCell ⟨G,4,none⟩ (.slice (some ⟨w.heap.size,0,none⟩) 5 5)).cell? ⟨G,i,none⟩ = w.cell? ⟨G,i,none⟩:=fun i hi=>by
  rw [World.cell?_setCell_other _ _ _ _ (ne_off (Ne.symm hi)),World.cell?_alloc_past _ _ _ hl]
 have ot:∀ i:Nat,((w.alloc (.cells #[.pointer none,.pointer none,.pointer none,.pointer none,.pointer none] t)).setCell ⟨G,4,none⟩ (.slice (some ⟨w.heap.size,0,none⟩) 5 5)).cell? ⟨w.heap.size,i,none⟩ = (#[Value.pointer none,.pointer none,.pointer none,.pointer none,.pointer none]:Array Value)[i]?:=fun i=>by
  rw [World.cell?_setCell_other _ _ _ _ (ne_blk (by omega)),World.cell?_alloc_at _ _ _ _ rfl]
 refine ⟨(h.below.alloc hB _).setCell h.lo _,⟨h.lo,hB,by omega,by rw [z_set,hz];omega,by rw [z_set,hz];omega,by rw [z_set,hz];omega⟩,⟨(og 0 (by omega)).trans h.c0,(og 1 (by omega)).trans h.c1,(og 2 (by omega)).trans h.c2,(og 3 (by omega)).trans h.c3,World.cell?_setCell_same _ _ _ ((World.cell?_alloc_past _ _ _ hl).trans h.c4)⟩,(og 5 (by omega)).trans h.c5,fun c=>?_,fun i=>?_,ot 3,fun j hj=>⟨fun h0=>absurd h0 (by omega),fun _=>?_⟩,⟨fun _=>ot 4,fun h0=>absurd h0 (by omega)⟩⟩
 ·rw [og _ (by omega),h.cell c,hf c]
 ·rw [World.frozen?_setCell];exact World.frozen?_alloc_at _ _ _ _ rfl
 ·match j,hj with
  | 0,_=>exact ot 0
  | 1,_=>exact ot 1
  | 2,_=>exact ot 2
theorem info_map:(Tryz.prog.info? 228).map (·.size) = some 256:=by kernel_rfl
theorem idx_map (f:Nat -> Nat) (k:Nat) (hk:k < 256) (w:World):(Instr.index 228 (.agg (mapL f).toArray) (.int .i64 (k:Int))).run Tryz.prog w = .ok (.int .u8 (f k)) w:=by
 have hi:(0:Int) <= (k:Int) /\ (k:Int) < ((256:Nat):Int):=by omega
 have hc:(mapL f).toArray[k]? = some (.int .u8 (f k)):=by simp [mapL,hk]
 have hs:∀ w,(sizeOf 5).run Tryz.prog w = .ok 1 w:=fun _=>by kernel_rfl
 have ha:∀ w,(isAgg 5).run Tryz.prog w = .ok false w:=fun _=>by kernel_rfl
 have hp:∀ w,(part 5 (mapL f).toArray k).run Tryz.prog w = .ok (.int .u8 (f k)) w:=fun w=>by
  simp only [part,Sem.run_bind,ha,Result.andThen_ok,hc];rfl
 simp only [Instr.index,asIntOf,Sem.run_bind,Sem.run_pure,Result.andThen_ok,run_underlying Tryz.underlying228,hs,Int.toNat_natCast,Nat.mul_one];rw [if_pos hi];simp only [Sem.run_bind,hs,Result.andThen_ok,Nat.mul_one];exact hp w
theorem add_key (G T k:Nat) (B:Nat) (W0 w:World) (hk:k < 4) (h:TSt B W0 G T k w) (p:Int) (hp:p = 8 - 2 * (k:Int)) :
  Calls Tryz.prog 243 #[.pointer (some ⟨G,0,none⟩),.string (keyE k),.string (valE k),.int .i64 p,.pointer (some ⟨G,0,none⟩)] w fun e w'=>e = .returned (.tuple #[]) /\ TSt B W0 G T (k + 1) w':=by
 subst hp;obtain ⟨l1,l2,l3,l4,l5,l6⟩:=h.lo
 by_cases h3:k < 3
 ·have h1:(keyE k).size = 1:=by
   match k,h3 with
   | 0,_=>rfl
   | 1,_=>rfl
   | 2,_=>rfl
  have hm:mapC ((keyE k)[0]'(by omega)) = k:=by
   match k,h3 with
   | 0,_=>rfl
   | 1,_=>rfl
   | 2,_=>rfl
  refine (add_one G T k (keyE k) (valE k) (8 - 2 * (k:Int)) w h1 l5 (by omega) h.root.2.2.1 h.root.2.2.2.2 (by rw [h.map,hm]) ((h.old k h3).2 (Nat.le_refl _)) (h.fr k) l3).mono ?_;rintro e w' ⟨he,hh,hn⟩;exact ⟨he,h.one h3 hh hn⟩
 ·obtain rfl:k = 3:=by omega
  refine (add_two G T 4 (keyE 3) (valE 3) (8 - 2 * ((3:Nat):Int)) w rfl l5 (by omega) h.root.2.2.1 h.root.2.2.2.2 (by rw [h.map];rfl) (h.t4.1 (Nat.le_refl _)) (h.fr 4) l3).mono ?_;rintro e w' ⟨he,hh,h4,h5,hz⟩;exact ⟨he,h.last hh h4 h5 hz⟩
theorem makeGen_any (g c:Nat) (w:World) (hg:OldNewE g w) :
  Calls Tryz.prog 215 #[.slice (some ⟨g,0,none⟩) 8 c] w fun e w'=>e = .returned (.pointer (some ⟨w.heap.size,0,none⟩)) /\ TrieX w.heap.size w.heap.size w' /\ Below w.heap.size w w':=by
 have hgl:g < w.heap.size:=World.block_lt_of_cell? w _ (hg 0 (by omega)).1;have HG:=hide hg;have HN:Hid (GSt w.heap.size w w.heap.size 0 (inI (keysTo 0)) (w.alloc (.cells Tryz.zeroCells258 258))):=hide ((GSt.new w).ext (fun _ _=>rfl));clear hg;go_enter Tryz.func215,Tryz.ntmps215;go_wp2_with fail;go_loopw [4] (fun iv wr=>∃ k n:Nat,k <= 4 /\ n = 2 * k /\ iv = .int .i64 n /\ Hid (GSt w.heap.size w w.heap.size 0 (inI (keysTo k)) wr)) (fun iv _=>8 - (intOf iv).toNat)
 case atStart=>exact ⟨0,0,by omega,rfl,rfl,HN⟩
 case round =>
  obtain ⟨k,n,hk,hn,rfl,HS⟩:=hrel
  by_cases hlt:k < 4
  ·have n8:(n:Int) < 8:=by omega
   have ck:wr.cell? ⟨g,n,none⟩ = some (.string (keyE k)):=by rw [hn];exact (HS.out.below.cell (p:=⟨g,2 * k,none⟩) hgl).trans (HG.out k hlt).1
   obtain ⟨K,hK⟩:∃ K,K = keyE k:=⟨_,rfl⟩
   rw [<- hK] at ck;have HK:=hide hK;have HKN:=hide (And.intro hlt hn);have hK2:K.size <= 2:=by rw [hK];exact (keyE_size k).2
   clear hK hn hlt hk;go_wp2_with fail;go_loopw [6] (fun jv wr=>∃ j:Nat,j <= K.size /\ jv = .int .i64 j /\ Hid (GSt w.heap.size w w.heap.size 0 (inI (keysTo k ++ (K.data.toList.take j).map UInt8.toNat)) wr)) (fun jv _=>K.size - (intOf jv).toNat)
   case atStart=>exact ⟨0,Nat.zero_le _,rfl,by simpa using HS⟩
   case round =>
    obtain ⟨j,hj,rfl,HS2⟩:=hrel
    by_cases hjl:j < K.size
    ·have b1:K[j].toNat < 256:=chr_lt _;have b2:(K[j].toNat:Int) < 256:=by omega
     have cc:=HS2.out.cell K[j];have ff:=HS2.out.fr (6 + K[j].toNat)
     have HS3:Hid (∀ q,GSt w.heap.size w w.heap.size 0 (inI (keysTo k ++ (K.data.toList.take (j + 1)).map UInt8.toNat)) ((wr.drewN q).setCell ⟨w.heap.size,6 + K[j].toNat,none⟩ (.int .u8 1))):=hide fun q=>by
      rw [take_snoc K j hjl,List.map_append,<- List.append_assoc];exact ((HS2.out.drewN q).put K[j].toNat 1 b1).ext (fun i _=>inI_snoc _ _ i)
     go_wp2_with fail;go_region
     all_goals
      go_wp2_with fail;go_roundw
      case rel=>exact ⟨j + 1,by omega,by go_num,hide (HS3.out 1)⟩
      case measure=>simp [intOf];omega
    ·have hje:j = K.size:=by omega
     have HS4:Hid (GSt w.heap.size w w.heap.size 0 (inI (keysTo (k + 1))) wr):=hide (by
      have:=HS2.out;rw [hje,<- toList_length,List.take_length,HK.out,keys_step k HKN.out.1] at this;exact this)
     go_wp2_with fail;go_roundw
     case rel=>exact ⟨k + 1,n + 2,by have:=HKN.out.1;omega,by have:=HKN.out.2;omega,by go_num,HS4⟩
     case measure=>simp [intOf];omega
  ·obtain rfl:k = 4:=by omega
   have hn8:n = 8:=by omega
   subst hn8;have HS5:=hide HS.out;have hmk:=HS.out.range;clear hk hlt HS;go_wp2_with (refine wpList_load_mid rfl _ _ rfl w.heap.size 6 rfl (mapL (inI (keysTo 4))) _ hmk Tryz.underlying228 rfl (by rw [mapL_length];exact info_map) ?_);clear hmk;go_loopw [41] (fun iv wr=>∃ k:Nat,k <= 256 /\ iv = .int .i64 k /\ Hid (GSt w.heap.size w w.heap.size (cntI k) (inI (keysTo 4)) wr)) (fun iv _=>256 - (intOf iv).toNat)
   case atStart=>exact ⟨0,by omega,rfl,HS5⟩
   case round =>
    obtain ⟨k,hk,rfl,HS⟩:=hrel
    by_cases hlt:k < 256
    ·have hix:=idx_map (inI (keysTo 4)) k hlt;have c5:=HS.out.c5;have f5:=HS.out.fr 5;have hi2:=inI_two (keysTo 4) k;have hcl:=cnt_le k (by omega);have hst:=cnt_step k hlt;obtain ⟨b,hb⟩:∃ b,b = inI (keysTo 4) k:=⟨_,rfl⟩
     obtain ⟨m,hm⟩:∃ m,m = cntI k:=⟨_,rfl⟩
     have HN:Hid (GSt w.heap.size w w.heap.size (cntI (k + 1)) (inI (keysTo 4)) (wr.setCell ⟨w.heap.size,5,none⟩ (.int .i64 ((m + b:Nat):Int)))):=hide (by
      have e:m + b = cntI (k + 1):=by rw [hb,hm];exact hst.symm
      rw [e];exact HS.out.count _)
     rw [<- hb] at hix hi2;rw [<- hm] at c5 hcl;have x1:IntKind.i64.wrap (b:Int) = b:=IntWalk.i64_in _ (by omega);have x2:IntKind.i64.wrap ((m:Int) + (b:Int)) = ((m + b:Nat):Int):=by rw [IntWalk.i64_in _ (by omega)];omega
     have k0:(k:Int) < 256:=by omega
     clear hst hi2 hcl hb hm;go_wp2_with fail;go_roundw
     case rel=>exact ⟨k + 1,by omega,by go_num,HN⟩
     case measure=>simp [intOf];omega
    ·obtain rfl:k = 256:=by omega
     have HS6:Hid (GSt w.heap.size w w.heap.size 5 (mixI 0) wr):=hide (HS.out.ext (fun j _=>by unfold mixI;rw [if_neg (by omega)];rfl));have hmk:wr.rangeAt w.heap.size 6 (mapL (inI (keysTo 4))):=HS.out.range;clear hk hlt HS HS5;go_wp2_with (refine wpList_load_mid rfl _ _ rfl w.heap.size 6 rfl (mapL (inI (keysTo 4))) _ hmk Tryz.underlying228 rfl (by rw [mapL_length];exact info_map) ?_);clear hmk;go_loopw [9,58] (fun xv iv wr=>∃ k m:Nat,k <= 256 /\ m = cntI k /\ iv = .int .i64 k /\ xv = .int .u8 m /\ Hid (GSt w.heap.size w w.heap.size 5 (mixI k) wr)) (fun _ iv _=>256 - (intOf iv).toNat)
     case atStart=>exact ⟨0,0,by omega,rfl,rfl,rfl,HS6⟩
     case round =>
      obtain ⟨k,m,hk,hm,rfl,rfl,HS⟩:=hrel
      by_cases hlt:k < 256
      ·have hix:=idx_map (inI (keysTo 4)) k hlt;have c5:wr.cell? ⟨w.heap.size,5,none⟩ = some (.int .i64 5):=HS.out.c5;have c6:=HS.out.map k hlt;have f6:=HS.out.fr (6 + k);have k0:(k:Int) < 256:=by omega
       rcases inI_two (keysTo 4) k with hb | hb
       ·rw [hb] at hix;have ht:tabI k = 5:=by unfold tabI;rw [if_neg (by rw [show inI [38,60,62,194,160] k = 0 from hb];decide)]
        have hm2:m = cntI (k + 1):=by rw [cnt_step k hlt,show inI [38,60,62,194,160] k = 0 from hb];exact hm
        have HN:Hid (∀ q,GSt w.heap.size w w.heap.size 5 (mixI (k + 1)) ((wr.drewN q).setCell ⟨w.heap.size,6 + k,none⟩ (.int .u8 5))):=hide fun q=>by
         have:=(HS.out.drewN q).put k 5 hlt;exact this.ext (fun j _=>by rw [<- ht];exact mix_step k j)
        clear hb ht hm;go_wp2_with fail;go_region
        all_goals
         go_wp2_with fail;go_roundw
         case rel=>exact ⟨k + 1,m,by omega,hm2,by go_num,rfl,hide (HN.out 1)⟩
         case measure=>simp [intOf];omega
       ·rw [hb] at hix;have ht:tabI k = m:=by unfold tabI;rw [if_pos (show inI [38,60,62,194,160] k = 1 from hb)];exact hm.symm
        have hm2:m + 1 = cntI (k + 1):=by rw [cnt_step k hlt,show inI [38,60,62,194,160] k = 1 from hb,<- hm]
        have hml:m <= 5:=by rw [hm];exact cnt_le k (by omega)
        have x1:IntKind.u8.wrap ((m:Int) + 1) = ((m + 1:Nat):Int):=by rw [IntWalk.u8_in _ (by omega)];omega
        have HN:Hid (GSt w.heap.size w w.heap.size 5 (mixI (k + 1)) (wr.setCell ⟨w.heap.size,6 + k,none⟩ (.int .u8 m))):=hide (by
         have:=HS.out.put k m hlt;exact this.ext (fun j _=>by rw [<- ht];exact mix_step k j))
        clear hb ht hm hml;go_wp2_with fail;go_roundw
        case rel=>exact ⟨k + 1,m + 1,by omega,hm2,by go_num,by go_num,HN⟩
        case measure=>simp [intOf];omega
      ·obtain rfl:k = 256:=by omega
       have c5:wr.cell? ⟨w.heap.size,5,none⟩ = some (.int .i64 5):=HS.out.c5;have c4:=HS.out.c4;have f4:=HS.out.fr 4;have hGl:=HS.out.lt;have hmf:=made_five;have HT0:=hide (HS.out.table HS.out.below.size (fun c=>by unfold mixI;rw [if_pos (chr_lt c)];exact tab_map c) 253);clear hk hlt HS HS6 hm;go_wp2_with fail;obtain ⟨T,hT⟩:∃ T,T = wr.heap.size:=⟨_,rfl⟩
       rw [<- hT] at HT0;have HTT:=hide hT;have HGL:=hide hGl;clear hmf c5 c4 f4 hGl hT;go_loopw [12] (fun iv wr=>∃ k n:Nat,k <= 4 /\ n = 2 * k /\ iv = .int .i64 n /\ Hid (TSt w.heap.size w w.heap.size T k wr)) (fun iv _=>8 - (intOf iv).toNat)
       case atStart=>exact ⟨0,0,by omega,rfl,rfl,hide (by rw [<- World.setCell_alloc_past _ _ _ _ HGL.out,<- HTT.out];exact HT0.out)⟩
       case round =>
        obtain ⟨k,n,hk,hn,rfl,HS⟩:=hrel
        by_cases hlt:k < 4
        ·have n8:(n:Int) < 8:=by omega
         have n7:(n:Int) + 1 < 8:=by omega
         have n6:(0:Int) <= (n:Int) + 1:=by omega
         have x1:IntKind.i64.wrap ((n:Int) + 1) = (n:Int) + 1:=IntWalk.i64_in _ (by omega);have x2:((n:Int) + 1).toNat = n + 1:=by omega
         have x3:IntKind.i64.wrap (8 - (n:Int)) = 8 - (n:Int):=IntWalk.i64_in _ (by omega);have ck:wr.cell? ⟨g,n,none⟩ = some (.string (keyE k)):=by rw [hn];exact (HS.out.below.cell (p:=⟨g,2 * k,none⟩) hgl).trans (HG.out k hlt).1
         have cv:wr.cell? ⟨g,n + 1,none⟩ = some (.string (valE k)):=by rw [hn];exact (HS.out.below.cell (p:=⟨g,2 * k + 1,none⟩) hgl).trans (HG.out k hlt).2
         obtain ⟨K,hK⟩:∃ K,K = keyE k:=⟨_,rfl⟩
         obtain ⟨V,hV⟩:∃ V,V = valE k:=⟨_,rfl⟩
         rw [<- hK] at ck;rw [<- hV] at cv
         have HAD:=hide (fun q=>by
          have:=add_key w.heap.size T k w.heap.size w (wr.drewN q) hlt ⟨HS.out.1.trans ⟨rfl,rfl,rfl,Nat.le_refl _,fun _ _=>rfl⟩,HS.out.2,HS.out.3,HS.out.4,HS.out.5,HS.out.6,HS.out.7,HS.out.8,HS.out.9⟩ (8 - (n:Int)) (by rw [hn];omega);rw [<- hK,<- hV] at this;exact this)
         have HKN:=hide (And.intro hlt hn);clear hK hV hlt hn hk HS;go_wp2_with fail;go_still_tail 17,(by kernel_rfl)
         change wpList _ _ _ _ _ wr.drew;go_wp2_with (go_at_call 243;refine (HAD.out 1).mono ?_;rintro e w5 ⟨rfl,hs5⟩;have HS5:=hide hs5;clear hs5);refine ⟨⟨_,_,_,_,_,_,_,_,_,_,_,_,_,_,_,_,_,_,_,_,_,_,_,_,_,?_,rfl⟩,?_⟩
         ·exact ⟨k + 1,n + 2,by have:=HKN.out.1;omega,by have:=HKN.out.2;omega,by go_num,HS5⟩
         ·simp [intOf];omega
        ·obtain rfl:k = 4:=by omega
         obtain rfl:n = 8:=by omega
         clear hk hlt hn;go_wp2_with fail;go_ret;exact ⟨rfl,HS.out.trie,HS.out.below⟩
def dgV (c:UInt8):Nat:=if 48 <= c.toNat /\ c.toNat <= 57 then c.toNat - 48 else if 97 <= (c ||| 32).toNat /\ (c ||| 32).toNat <= 122 then (c ||| 32).toNat - 87 else 255
def digB (b:Nat) (c:UInt8):Option Nat:=if dgV c < b then some (dgV c) else none
def parseB (b:Nat):Nat -> List UInt8 -> Option Nat
  | n,[]=>some n
  | n,c :: r=>match digB b c with
    | none=>none
    | some d=>parseB b (n * b + d) r
def uTup:Option Nat -> Value
  | some n=>.tuple #[.int .u64 n,.nilIface]
  | none=>.tuple #[.int .u64 0,.iface 238 (.int .i64 2)]
theorem par_step {b n d k:Nat} (h:n + 1 <= b ^ k) (hd:d < b):n * b + d + 1 <= b ^ (k + 1):=by
 have h1:(n + 1) * b <= b ^ k * b:=Nat.mul_le_mul_right b h;rw [Nat.pow_succ];rw [Nat.succ_mul] at h1;omega
theorem iparse10_any (s:ByteArray) (w:World) (hs:s.size <= 8) (h0:s.size ≠ 0) :
  Calls Tryz.prog 193 #[.string s,.int .i64 10,.int .i64 32] w fun e w'=>e = .returned (uTup (parseB 10 0 s.data.toList)) /\ Below w.heap.size w w':=by
 have hemp:s.toList.isEmpty = false:=(sizeP h0).2;go_enter Tryz.func193,Tryz.ntmps193;go_wp2_with (refine wpList_bytes rfl _ rfl s rfl ?_;intro cap w0 ha0;have HA0:=hide ha0;clear ha0);go_loopw [12,13,101] (fun un nv i wr=>∃ k n:Nat,un = .bool false /\ k <= s.size /\ i = .int .i64 k /\ nv = .int .u64 n /\ Hid (n + 1 <= 10 ^ k) /\ Hid (parseB 10 n (s.data.toList.drop k) = parseB 10 0 s.data.toList) /\ Hid (wr = w0)) (fun _ _ i _=>s.size - (intOf i).toNat)
 case atStart=>exact ⟨0,0,rfl,Nat.zero_le _,rfl,rfl,hide (Nat.le_refl _),hide rfl,hide rfl⟩
 case round =>
  obtain ⟨k,n,rfl,hk,rfl,rfl,HP,HG,HW⟩:=hrel;obtain rfl:=HW.out
  by_cases hlt:k < s.size
  ·have hst:=HG.out;rw [drop_cons s k hlt,parseB] at hst;have c1:wr.cell? ⟨w.heap.size,k,none⟩ = some (.int .u8 s[k].toNat):=HA0.out.cell k (by rw [toList_length];exact hlt)
   by_cases g1:48 <= s[k].toNat /\ s[k].toNat <= 57
   ·obtain ⟨d,hd⟩:∃ d,s[k].toNat = 48 + d:=⟨s[k].toNat - 48,by omega⟩
    have t1:decide ((48:Int) <= s[k].toNat) = true:=decide_eq_true (by omega);have t2:decide ((s[k].toNat:Int) <= 57) = true:=decide_eq_true (by omega);have t3:((s[k].toNat:Int) == 95) = false:=beq_eq_false_iff_ne.2 (by omega);have wd:IntKind.u8.wrap ((s[k].toNat:Int) - 48) = (d:Int):=by rw [hd];rw [show ((48 + d:Nat):Int) - 48 = d by omega];exact IntWalk.u8_in _ (by omega)
    have hdl:d < 10:=by omega
    have hdb:digB 10 s[k] = some d:=by unfold digB dgV;rw [if_pos g1];rw [if_pos (by omega)];exact congrArg some (by omega)
    rw [hdb] at hst;have HN:Hid (parseB 10 (n * 10 + d) (s.data.toList.drop (k + 1)) = parseB 10 0 s.data.toList):=hide hst;have HB1:Hid (n * 10 + d + 1 <= 10 ^ (k + 1)):=hide (par_step HP.out hdl);have hb2:n * 10 + d + 1 <= 4294967296:=Nat.le_trans HB1.out (Nat.le_trans (Nat.pow_le_pow_right (by decide) (by omega:k + 1 <= 8)) (by decide));have x0:IntKind.u64.wrap (d:Int) = (d:Int):=IntWalk.u64_in _ (by omega);have x1:IntKind.u64.wrap ((n:Int) * 10) = (n:Int) * 10:=IntWalk.u64_in _ (by omega);have x2:IntKind.u64.wrap ((n:Int) * 10 + (d:Int)) = (n:Int) * 10 + d:=IntWalk.u64_in _ (by omega);have x3:decide ((n:Int) * 10 + (d:Int) < (n:Int) * 10) = false:=decide_eq_false (by omega);have x4:decide ((4294967295:Int) < (n:Int) * 10 + (d:Int)) = false:=decide_eq_false (by omega);have x5:decide ((10:Int) <= (d:Int)) = false:=decide_eq_false (by omega);have x6:decide ((1844674407370955162:Int) <= (n:Int)) = false:=decide_eq_false (by omega);clear hst hdb hdl hb2;clear hd g1;go_wp2_with fail;go_roundw
    case rel=>exact ⟨k + 1,n * 10 + d,rfl,by omega,by go_num,by first | rfl | simp,HB1,HN,by first | exact trivial | exact hide rfl⟩
    case measure=>simp [intOf];omega
   ·have t1:(decide ((48:Int) <= s[k].toNat) && decide ((s[k].toNat:Int) <= 57)) = false:=by
     cases q1:decide ((48:Int) <= s[k].toNat) with
     | false=>rfl
     | true =>
      have:=of_decide_eq_true q1;rw [Bool.true_and];exact decide_eq_false (by omega)
    obtain ⟨L,hL⟩:∃ L,(s[k] ||| 32).toNat = L:=⟨_,rfl⟩
    have ho:bits .or .u8 (s[k].toNat:Int) 32 = (L:Int):=by rw [or32,hL]
    have HC:=hide (fun w1=>Tryz.internal_strconv_lower (s[k].toNat:Int) w1);rw [ho] at HC;have t3:(decide ((s[k].toNat:Int) = 95)) = decide (s[k].toNat = 95):=by congr 1;exact propext (by omega)
    have hdv:dgV s[k] = if 97 <= L /\ L <= 122 then L - 87 else 255:=by unfold dgV;rw [if_neg g1,hL]
    have hLl:L < 256:=by rw [<- hL];exact byte_lt _
    by_cases q1:(48:Int) <= s[k].toNat
    ·have q1':decide ((48:Int) <= s[k].toNat) = true:=decide_eq_true q1;have q2':decide ((s[k].toNat:Int) <= 57) = false:=decide_eq_false (by omega);clear t1 t3
     by_cases u:s[k].toNat = 95
     ·have u':((s[k].toNat:Int) == 95) = true:=by rw [beq_iff_eq];omega
      have hL95:L = 127:=by rw [<- hL,show s[k] = 95 from UInt8.toNat_inj.1 u];rfl
      have hv:dgV s[k] = 255:=by rw [hdv,if_neg (by omega)]
      have hbad:digB 10 s[k] = none:=by unfold digB;rw [hv];rfl
      rw [hbad] at hst;have HR:Hid (parseB 10 0 s.data.toList = none):=hide hst.symm;have l1:decide ((97:Int) <= L) = true:=decide_eq_true (by omega);have l2:decide ((L:Int) <= 122) = false:=decide_eq_false (by omega);clear hst hbad hv hdv hL ho u g1 q1;go_wp2_with (go_at_call 220;refine (HC.out _).mono ?_;rintro e w1 ⟨rfl,hw1⟩;obtain rfl:=hw1.symm);go_ret2;exact ⟨by rw [HR.out];rfl,HA0.out.below⟩
     have u':((s[k].toNat:Int) == 95) = false:=beq_eq_false_iff_ne.2 (by omega)
     by_cases l1:97 <= L
     ·have l1':decide ((97:Int) <= L) = true:=decide_eq_true (by omega)
      by_cases l2:L <= 122
      ·have l2':decide ((L:Int) <= 122) = true:=decide_eq_true (by omega);rw [if_pos ⟨l1,l2⟩] at hdv;obtain ⟨d,hd⟩:∃ d,L = 87 + d:=⟨L - 87,by omega⟩
       have y1:IntKind.u8.wrap ((L:Int) - 97) = ((d - 10:Nat):Int):=by rw [show (L:Int) - 97 = ((d - 10:Nat):Int) by omega];exact IntWalk.u8_in _ (by omega)
       have y2:IntKind.u8.wrap (((d - 10:Nat):Int) + 10) = (d:Int):=by rw [show ((d - 10:Nat):Int) + 10 = (d:Int) by omega];exact IntWalk.u8_in _ (by omega)
       by_cases hdl:d < 10
       ·clear q1;have hdb:digB 10 s[k] = some d:=by unfold digB;rw [hdv,if_pos (by omega)];exact congrArg some (by omega)
        rw [hdb] at hst;have HN:Hid (parseB 10 (n * 10 + d) (s.data.toList.drop (k + 1)) = parseB 10 0 s.data.toList):=hide hst;have HB1:Hid (n * 10 + d + 1 <= 10 ^ (k + 1)):=hide (par_step HP.out hdl);have hb2:n * 10 + d + 1 <= 4294967296:=Nat.le_trans HB1.out (Nat.le_trans (Nat.pow_le_pow_right (by decide) (by omega:k + 1 <= 8)) (by decide));have x0:IntKind.u64.wrap (d:Int) = (d:Int):=IntWalk.u64_in _ (by omega);have x1:IntKind.u64.wrap ((n:Int) * 10) = (n:Int) * 10:=IntWalk.u64_in _ (by omega);have x2:IntKind.u64.wrap ((n:Int) * 10 + (d:Int)) = (n:Int) * 10 + d:=IntWalk.u64_in _ (by omega);have x3:decide ((n:Int) * 10 + (d:Int) < (n:Int) * 10) = false:=decide_eq_false (by omega);have x4:decide ((4294967295:Int) < (n:Int) * 10 + (d:Int)) = false:=decide_eq_false (by omega);have x5:decide ((10:Int) <= (d:Int)) = false:=decide_eq_false (by omega);have x6:decide ((1844674407370955162:Int) <= (n:Int)) = false:=decide_eq_false (by omega);clear hst hdb hdl hb2;clear hdv hL ho u g1 hd;go_wp2_with (go_at_call 220;refine (HC.out _).mono ?_;rintro e w1 ⟨rfl,hw1⟩;obtain rfl:=hw1.symm);go_roundw
        case rel=>exact ⟨k + 1,n * 10 + d,rfl,by omega,by go_num,by first | rfl | simp,HB1,HN,by first | exact trivial | exact hide rfl⟩
        case measure=>simp [intOf];omega
       ·have hbad:digB 10 s[k] = none:=by unfold digB;rw [hdv,if_neg (by omega)]
        rw [hbad] at hst;have HR:Hid (parseB 10 0 s.data.toList = none):=hide hst.symm;have x5:decide ((10:Int) <= (d:Int)) = true:=decide_eq_true (by omega);clear hst hbad hdv hL ho u g1 q1 hdl hd;go_wp2_with (go_at_call 220;refine (HC.out _).mono ?_;rintro e w1 ⟨rfl,hw1⟩;obtain rfl:=hw1.symm);go_ret2;exact ⟨by rw [HR.out];rfl,HA0.out.below⟩
      ·have l2':decide ((L:Int) <= 122) = false:=decide_eq_false (by omega);have hv:dgV s[k] = 255:=by rw [hdv,if_neg (by omega)]
       have hbad:digB 10 s[k] = none:=by unfold digB;rw [hv];rfl
       rw [hbad] at hst;have HR:Hid (parseB 10 0 s.data.toList = none):=hide hst.symm;clear hst hbad hv hdv hL ho u g1 q1;go_wp2_with (go_at_call 220;refine (HC.out _).mono ?_;rintro e w1 ⟨rfl,hw1⟩;obtain rfl:=hw1.symm);go_ret2;exact ⟨by rw [HR.out];rfl,HA0.out.below⟩
     ·have l1':decide ((97:Int) <= L) = false:=decide_eq_false (by omega);have hv:dgV s[k] = 255:=by rw [hdv,if_neg (by omega)]
      have hbad:digB 10 s[k] = none:=by unfold digB;rw [hv];rfl
      rw [hbad] at hst;have HR:Hid (parseB 10 0 s.data.toList = none):=hide hst.symm;clear hst hbad hv hdv hL ho u g1 q1;go_wp2_with (go_at_call 220;refine (HC.out _).mono ?_;rintro e w1 ⟨rfl,hw1⟩;obtain rfl:=hw1.symm);go_ret2;exact ⟨by rw [HR.out];rfl,HA0.out.below⟩
    ·have q1':decide ((48:Int) <= s[k].toNat) = false:=decide_eq_false q1;clear t1 t3
     by_cases u:s[k].toNat = 95
     ·have u':((s[k].toNat:Int) == 95) = true:=by rw [beq_iff_eq];omega
      have hL95:L = 127:=by rw [<- hL,show s[k] = 95 from UInt8.toNat_inj.1 u];rfl
      have hv:dgV s[k] = 255:=by rw [hdv,if_neg (by omega)]
      have hbad:digB 10 s[k] = none:=by unfold digB;rw [hv];rfl
      rw [hbad] at hst;have HR:Hid (parseB 10 0 s.data.toList = none):=hide hst.symm;have l1:decide ((97:Int) <= L) = true:=decide_eq_true (by omega);have l2:decide ((L:Int) <= 122) = false:=decide_eq_false (by omega);clear hst hbad hv hdv hL ho u g1 q1;go_wp2_with (go_at_call 220;refine (HC.out _).mono ?_;rintro e w1 ⟨rfl,hw1⟩;obtain rfl:=hw1.symm);go_ret2;exact ⟨by rw [HR.out];rfl,HA0.out.below⟩
     have u':((s[k].toNat:Int) == 95) = false:=beq_eq_false_iff_ne.2 (by omega)
     by_cases l1:97 <= L
     ·have l1':decide ((97:Int) <= L) = true:=decide_eq_true (by omega)
      by_cases l2:L <= 122
      ·have l2':decide ((L:Int) <= 122) = true:=decide_eq_true (by omega);rw [if_pos ⟨l1,l2⟩] at hdv;obtain ⟨d,hd⟩:∃ d,L = 87 + d:=⟨L - 87,by omega⟩
       have y1:IntKind.u8.wrap ((L:Int) - 97) = ((d - 10:Nat):Int):=by rw [show (L:Int) - 97 = ((d - 10:Nat):Int) by omega];exact IntWalk.u8_in _ (by omega)
       have y2:IntKind.u8.wrap (((d - 10:Nat):Int) + 10) = (d:Int):=by rw [show ((d - 10:Nat):Int) + 10 = (d:Int) by omega];exact IntWalk.u8_in _ (by omega)
       by_cases hdl:d < 10
       ·clear q1;have hdb:digB 10 s[k] = some d:=by unfold digB;rw [hdv,if_pos (by omega)];exact congrArg some (by omega)
        rw [hdb] at hst;have HN:Hid (parseB 10 (n * 10 + d) (s.data.toList.drop (k + 1)) = parseB 10 0 s.data.toList):=hide hst;have HB1:Hid (n * 10 + d + 1 <= 10 ^ (k + 1)):=hide (par_step HP.out hdl);have hb2:n * 10 + d + 1 <= 4294967296:=Nat.le_trans HB1.out (Nat.le_trans (Nat.pow_le_pow_right (by decide) (by omega:k + 1 <= 8)) (by decide));have x0:IntKind.u64.wrap (d:Int) = (d:Int):=IntWalk.u64_in _ (by omega);have x1:IntKind.u64.wrap ((n:Int) * 10) = (n:Int) * 10:=IntWalk.u64_in _ (by omega);have x2:IntKind.u64.wrap ((n:Int) * 10 + (d:Int)) = (n:Int) * 10 + d:=IntWalk.u64_in _ (by omega);have x3:decide ((n:Int) * 10 + (d:Int) < (n:Int) * 10) = false:=decide_eq_false (by omega);have x4:decide ((4294967295:Int) < (n:Int) * 10 + (d:Int)) = false:=decide_eq_false (by omega);have x5:decide ((10:Int) <= (d:Int)) = false:=decide_eq_false (by omega);have x6:decide ((1844674407370955162:Int) <= (n:Int)) = false:=decide_eq_false (by omega);clear hst hdb hdl hb2;clear hdv hL ho u g1 hd;go_wp2_with (go_at_call 220;refine (HC.out _).mono ?_;rintro e w1 ⟨rfl,hw1⟩;obtain rfl:=hw1.symm);go_roundw
        case rel=>exact ⟨k + 1,n * 10 + d,rfl,by omega,by go_num,by first | rfl | simp,HB1,HN,by first | exact trivial | exact hide rfl⟩
        case measure=>simp [intOf];omega
       ·have hbad:digB 10 s[k] = none:=by unfold digB;rw [hdv,if_neg (by omega)]
        rw [hbad] at hst;have HR:Hid (parseB 10 0 s.data.toList = none):=hide hst.symm;have x5:decide ((10:Int) <= (d:Int)) = true:=decide_eq_true (by omega);clear hst hbad hdv hL ho u g1 q1 hdl hd;go_wp2_with (go_at_call 220;refine (HC.out _).mono ?_;rintro e w1 ⟨rfl,hw1⟩;obtain rfl:=hw1.symm);go_ret2;exact ⟨by rw [HR.out];rfl,HA0.out.below⟩
      ·have l2':decide ((L:Int) <= 122) = false:=decide_eq_false (by omega);have hv:dgV s[k] = 255:=by rw [hdv,if_neg (by omega)]
       have hbad:digB 10 s[k] = none:=by unfold digB;rw [hv];rfl
       rw [hbad] at hst;have HR:Hid (parseB 10 0 s.data.toList = none):=hide hst.symm;clear hst hbad hv hdv hL ho u g1 q1;go_wp2_with (go_at_call 220;refine (HC.out _).mono ?_;rintro e w1 ⟨rfl,hw1⟩;obtain rfl:=hw1.symm);go_ret2;exact ⟨by rw [HR.out];rfl,HA0.out.below⟩
     ·have l1':decide ((97:Int) <= L) = false:=decide_eq_false (by omega);have hv:dgV s[k] = 255:=by rw [hdv,if_neg (by omega)]
      have hbad:digB 10 s[k] = none:=by unfold digB;rw [hv];rfl
      rw [hbad] at hst;have HR:Hid (parseB 10 0 s.data.toList = none):=hide hst.symm;clear hst hbad hv hdv hL ho u g1 q1;go_wp2_with (go_at_call 220;refine (HC.out _).mono ?_;rintro e w1 ⟨rfl,hw1⟩;obtain rfl:=hw1.symm);go_ret2;exact ⟨by rw [HR.out];rfl,HA0.out.below⟩
  ·have hk2:k = s.size:=by omega
   have HR:Hid (parseB 10 0 s.data.toList = some n):=hide (by rw [<- HG.out,drop_nil s k (by omega)];rfl);clear hk2;go_wp2_with fail;go_ret2;exact ⟨by rw [HR.out];rfl,HA0.out.below⟩
theorem iparse16_any (s:ByteArray) (w:World) (hs:s.size <= 8) (h0:s.size ≠ 0) :
  Calls Tryz.prog 193 #[.string s,.int .i64 16,.int .i64 32] w fun e w'=>e = .returned (uTup (parseB 16 0 s.data.toList)) /\ Below w.heap.size w w':=by
 have hemp:s.toList.isEmpty = false:=(sizeP h0).2;go_enter Tryz.func193,Tryz.ntmps193;go_wp2_with (refine wpList_bytes rfl _ rfl s rfl ?_;intro cap w0 ha0;have HA0:=hide ha0;clear ha0);go_loopw [12,13,101] (fun un nv i wr=>∃ k n:Nat,un = .bool false /\ k <= s.size /\ i = .int .i64 k /\ nv = .int .u64 n /\ Hid (n + 1 <= 16 ^ k) /\ Hid (parseB 16 n (s.data.toList.drop k) = parseB 16 0 s.data.toList) /\ Hid (wr = w0)) (fun _ _ i _=>s.size - (intOf i).toNat)
 case atStart=>exact ⟨0,0,rfl,Nat.zero_le _,rfl,rfl,hide (Nat.le_refl _),hide rfl,hide rfl⟩
 case round =>
  obtain ⟨k,n,rfl,hk,rfl,rfl,HP,HG,HW⟩:=hrel;obtain rfl:=HW.out
  by_cases hlt:k < s.size
  ·have hst:=HG.out;rw [drop_cons s k hlt,parseB] at hst;have c1:wr.cell? ⟨w.heap.size,k,none⟩ = some (.int .u8 s[k].toNat):=HA0.out.cell k (by rw [toList_length];exact hlt)
   by_cases g1:48 <= s[k].toNat /\ s[k].toNat <= 57
   ·obtain ⟨d,hd⟩:∃ d,s[k].toNat = 48 + d:=⟨s[k].toNat - 48,by omega⟩
    have t1:decide ((48:Int) <= s[k].toNat) = true:=decide_eq_true (by omega);have t2:decide ((s[k].toNat:Int) <= 57) = true:=decide_eq_true (by omega);have t3:((s[k].toNat:Int) == 95) = false:=beq_eq_false_iff_ne.2 (by omega);have wd:IntKind.u8.wrap ((s[k].toNat:Int) - 48) = (d:Int):=by rw [hd];rw [show ((48 + d:Nat):Int) - 48 = d by omega];exact IntWalk.u8_in _ (by omega)
    have hdl:d < 16:=by omega
    have hdb:digB 16 s[k] = some d:=by unfold digB dgV;rw [if_pos g1];rw [if_pos (by omega)];exact congrArg some (by omega)
    rw [hdb] at hst;have HN:Hid (parseB 16 (n * 16 + d) (s.data.toList.drop (k + 1)) = parseB 16 0 s.data.toList):=hide hst;have HB1:Hid (n * 16 + d + 1 <= 16 ^ (k + 1)):=hide (par_step HP.out hdl);have hb2:n * 16 + d + 1 <= 4294967296:=Nat.le_trans HB1.out (Nat.le_trans (Nat.pow_le_pow_right (by decide) (by omega:k + 1 <= 8)) (by decide));have x0:IntKind.u64.wrap (d:Int) = (d:Int):=IntWalk.u64_in _ (by omega);have x1:IntKind.u64.wrap ((n:Int) * 16) = (n:Int) * 16:=IntWalk.u64_in _ (by omega);have x2:IntKind.u64.wrap ((n:Int) * 16 + (d:Int)) = (n:Int) * 16 + d:=IntWalk.u64_in _ (by omega);have x3:decide ((n:Int) * 16 + (d:Int) < (n:Int) * 16) = false:=decide_eq_false (by omega);have x4:decide ((4294967295:Int) < (n:Int) * 16 + (d:Int)) = false:=decide_eq_false (by omega);have x5:decide ((16:Int) <= (d:Int)) = false:=decide_eq_false (by omega);have x6:decide ((1152921504606846976:Int) <= (n:Int)) = false:=decide_eq_false (by omega);clear hst hdb hdl hb2;clear hd g1;go_wp2_with fail;go_roundw
    case rel=>exact ⟨k + 1,n * 16 + d,rfl,by omega,by go_num,by first | rfl | simp,HB1,HN,by first | exact trivial | exact hide rfl⟩
    case measure=>simp [intOf];omega
   ·have t1:(decide ((48:Int) <= s[k].toNat) && decide ((s[k].toNat:Int) <= 57)) = false:=by
     cases q1:decide ((48:Int) <= s[k].toNat) with
     | false=>rfl
     | true =>
      have:=of_decide_eq_true q1;rw [Bool.true_and];exact decide_eq_false (by omega)
    obtain ⟨L,hL⟩:∃ L,(s[k] ||| 32).toNat = L:=⟨_,rfl⟩
    have ho:bits .or .u8 (s[k].toNat:Int) 32 = (L:Int):=by rw [or32,hL]
    have HC:=hide (fun w1=>Tryz.internal_strconv_lower (s[k].toNat:Int) w1);rw [ho] at HC;have t3:(decide ((s[k].toNat:Int) = 95)) = decide (s[k].toNat = 95):=by congr 1;exact propext (by omega)
    have hdv:dgV s[k] = if 97 <= L /\ L <= 122 then L - 87 else 255:=by unfold dgV;rw [if_neg g1,hL]
    have hLl:L < 256:=by rw [<- hL];exact byte_lt _
    by_cases q1:(48:Int) <= s[k].toNat
    ·have q1':decide ((48:Int) <= s[k].toNat) = true:=decide_eq_true q1;have q2':decide ((s[k].toNat:Int) <= 57) = false:=decide_eq_false (by omega);clear t1 t3
     by_cases u:s[k].toNat = 95
     ·have u':((s[k].toNat:Int) == 95) = true:=by rw [beq_iff_eq];omega
      have hL95:L = 127:=by rw [<- hL,show s[k] = 95 from UInt8.toNat_inj.1 u];rfl
      have hv:dgV s[k] = 255:=by rw [hdv,if_neg (by omega)]
      have hbad:digB 16 s[k] = none:=by unfold digB;rw [hv];rfl
      rw [hbad] at hst;have HR:Hid (parseB 16 0 s.data.toList = none):=hide hst.symm;have l1:decide ((97:Int) <= L) = true:=decide_eq_true (by omega);have l2:decide ((L:Int) <= 122) = false:=decide_eq_false (by omega);clear hst hbad hv hdv hL ho u g1 q1;go_wp2_with (go_at_call 220;refine (HC.out _).mono ?_;rintro e w1 ⟨rfl,hw1⟩;obtain rfl:=hw1.symm);go_ret2;exact ⟨by rw [HR.out];rfl,HA0.out.below⟩
     have u':((s[k].toNat:Int) == 95) = false:=beq_eq_false_iff_ne.2 (by omega)
     by_cases l1:97 <= L
     ·have l1':decide ((97:Int) <= L) = true:=decide_eq_true (by omega)
      by_cases l2:L <= 122
      ·have l2':decide ((L:Int) <= 122) = true:=decide_eq_true (by omega);rw [if_pos ⟨l1,l2⟩] at hdv;obtain ⟨d,hd⟩:∃ d,L = 87 + d:=⟨L - 87,by omega⟩
       have y1:IntKind.u8.wrap ((L:Int) - 97) = ((d - 10:Nat):Int):=by rw [show (L:Int) - 97 = ((d - 10:Nat):Int) by omega];exact IntWalk.u8_in _ (by omega)
       have y2:IntKind.u8.wrap (((d - 10:Nat):Int) + 10) = (d:Int):=by rw [show ((d - 10:Nat):Int) + 10 = (d:Int) by omega];exact IntWalk.u8_in _ (by omega)
       by_cases hdl:d < 16
       ·clear q1;have hdb:digB 16 s[k] = some d:=by unfold digB;rw [hdv,if_pos (by omega)];exact congrArg some (by omega)
        rw [hdb] at hst;have HN:Hid (parseB 16 (n * 16 + d) (s.data.toList.drop (k + 1)) = parseB 16 0 s.data.toList):=hide hst;have HB1:Hid (n * 16 + d + 1 <= 16 ^ (k + 1)):=hide (par_step HP.out hdl);have hb2:n * 16 + d + 1 <= 4294967296:=Nat.le_trans HB1.out (Nat.le_trans (Nat.pow_le_pow_right (by decide) (by omega:k + 1 <= 8)) (by decide));have x0:IntKind.u64.wrap (d:Int) = (d:Int):=IntWalk.u64_in _ (by omega);have x1:IntKind.u64.wrap ((n:Int) * 16) = (n:Int) * 16:=IntWalk.u64_in _ (by omega);have x2:IntKind.u64.wrap ((n:Int) * 16 + (d:Int)) = (n:Int) * 16 + d:=IntWalk.u64_in _ (by omega);have x3:decide ((n:Int) * 16 + (d:Int) < (n:Int) * 16) = false:=decide_eq_false (by omega);have x4:decide ((4294967295:Int) < (n:Int) * 16 + (d:Int)) = false:=decide_eq_false (by omega);have x5:decide ((16:Int) <= (d:Int)) = false:=decide_eq_false (by omega);have x6:decide ((1152921504606846976:Int) <= (n:Int)) = false:=decide_eq_false (by omega);clear hst hdb hdl hb2;clear hdv hL ho u g1 hd;go_wp2_with (go_at_call 220;refine (HC.out _).mono ?_;rintro e w1 ⟨rfl,hw1⟩;obtain rfl:=hw1.symm);go_roundw
        case rel=>exact ⟨k + 1,n * 16 + d,rfl,by omega,by go_num,by first | rfl | simp,HB1,HN,by first | exact trivial | exact hide rfl⟩
        case measure=>simp [intOf];omega
       ·have hbad:digB 16 s[k] = none:=by unfold digB;rw [hdv,if_neg (by omega)]
        rw [hbad] at hst;have HR:Hid (parseB 16 0 s.data.toList = none):=hide hst.symm;have x5:decide ((16:Int) <= (d:Int)) = true:=decide_eq_true (by omega);clear hst hbad hdv hL ho u g1 q1 hdl hd;go_wp2_with (go_at_call 220;refine (HC.out _).mono ?_;rintro e w1 ⟨rfl,hw1⟩;obtain rfl:=hw1.symm);go_ret2;exact ⟨by rw [HR.out];rfl,HA0.out.below⟩
      ·have l2':decide ((L:Int) <= 122) = false:=decide_eq_false (by omega);have hv:dgV s[k] = 255:=by rw [hdv,if_neg (by omega)]
       have hbad:digB 16 s[k] = none:=by unfold digB;rw [hv];rfl
       rw [hbad] at hst;have HR:Hid (parseB 16 0 s.data.toList = none):=hide hst.symm;clear hst hbad hv hdv hL ho u g1 q1;go_wp2_with (go_at_call 220;refine (HC.out _).mono ?_;rintro e w1 ⟨rfl,hw1⟩;obtain rfl:=hw1.symm);go_ret2;exact ⟨by rw [HR.out];rfl,HA0.out.below⟩
     ·have l1':decide ((97:Int) <= L) = false:=decide_eq_false (by omega);have hv:dgV s[k] = 255:=by rw [hdv,if_neg (by omega)]
      have hbad:digB 16 s[k] = none:=by unfold digB;rw [hv];rfl
      rw [hbad] at hst;have HR:Hid (parseB 16 0 s.data.toList = none):=hide hst.symm;clear hst hbad hv hdv hL ho u g1 q1;go_wp2_with (go_at_call 220;refine (HC.out _).mono ?_;rintro e w1 ⟨rfl,hw1⟩;obtain rfl:=hw1.symm);go_ret2;exact ⟨by rw [HR.out];rfl,HA0.out.below⟩
    ·have q1':decide ((48:Int) <= s[k].toNat) = false:=decide_eq_false q1;clear t1 t3
     by_cases u:s[k].toNat = 95
     ·have u':((s[k].toNat:Int) == 95) = true:=by rw [beq_iff_eq];omega
      have hL95:L = 127:=by rw [<- hL,show s[k] = 95 from UInt8.toNat_inj.1 u];rfl
      have hv:dgV s[k] = 255:=by rw [hdv,if_neg (by omega)]
      have hbad:digB 16 s[k] = none:=by unfold digB;rw [hv];rfl
      rw [hbad] at hst;have HR:Hid (parseB 16 0 s.data.toList = none):=hide hst.symm;have l1:decide ((97:Int) <= L) = true:=decide_eq_true (by omega);have l2:decide ((L:Int) <= 122) = false:=decide_eq_false (by omega);clear hst hbad hv hdv hL ho u g1 q1;go_wp2_with (go_at_call 220;refine (HC.out _).mono ?_;rintro e w1 ⟨rfl,hw1⟩;obtain rfl:=hw1.symm);go_ret2;exact ⟨by rw [HR.out];rfl,HA0.out.below⟩
     have u':((s[k].toNat:Int) == 95) = false:=beq_eq_false_iff_ne.2 (by omega)
     by_cases l1:97 <= L
     ·have l1':decide ((97:Int) <= L) = true:=decide_eq_true (by omega)
      by_cases l2:L <= 122
      ·have l2':decide ((L:Int) <= 122) = true:=decide_eq_true (by omega);rw [if_pos ⟨l1,l2⟩] at hdv;obtain ⟨d,hd⟩:∃ d,L = 87 + d:=⟨L - 87,by omega⟩
       have y1:IntKind.u8.wrap ((L:Int) - 97) = ((d - 10:Nat):Int):=by rw [show (L:Int) - 97 = ((d - 10:Nat):Int) by omega];exact IntWalk.u8_in _ (by omega)
       have y2:IntKind.u8.wrap (((d - 10:Nat):Int) + 10) = (d:Int):=by rw [show ((d - 10:Nat):Int) + 10 = (d:Int) by omega];exact IntWalk.u8_in _ (by omega)
       by_cases hdl:d < 16
       ·clear q1;have hdb:digB 16 s[k] = some d:=by unfold digB;rw [hdv,if_pos (by omega)];exact congrArg some (by omega)
        rw [hdb] at hst;have HN:Hid (parseB 16 (n * 16 + d) (s.data.toList.drop (k + 1)) = parseB 16 0 s.data.toList):=hide hst;have HB1:Hid (n * 16 + d + 1 <= 16 ^ (k + 1)):=hide (par_step HP.out hdl);have hb2:n * 16 + d + 1 <= 4294967296:=Nat.le_trans HB1.out (Nat.le_trans (Nat.pow_le_pow_right (by decide) (by omega:k + 1 <= 8)) (by decide));have x0:IntKind.u64.wrap (d:Int) = (d:Int):=IntWalk.u64_in _ (by omega);have x1:IntKind.u64.wrap ((n:Int) * 16) = (n:Int) * 16:=IntWalk.u64_in _ (by omega);have x2:IntKind.u64.wrap ((n:Int) * 16 + (d:Int)) = (n:Int) * 16 + d:=IntWalk.u64_in _ (by omega);have x3:decide ((n:Int) * 16 + (d:Int) < (n:Int) * 16) = false:=decide_eq_false (by omega);have x4:decide ((4294967295:Int) < (n:Int) * 16 + (d:Int)) = false:=decide_eq_false (by omega);have x5:decide ((16:Int) <= (d:Int)) = false:=decide_eq_false (by omega);have x6:decide ((1152921504606846976:Int) <= (n:Int)) = false:=decide_eq_false (by omega);clear hst hdb hdl hb2;clear hdv hL ho u g1 hd;go_wp2_with (go_at_call 220;refine (HC.out _).mono ?_;rintro e w1 ⟨rfl,hw1⟩;obtain rfl:=hw1.symm);go_roundw
        case rel=>exact ⟨k + 1,n * 16 + d,rfl,by omega,by go_num,by first | rfl | simp,HB1,HN,by first | exact trivial | exact hide rfl⟩
        case measure=>simp [intOf];omega
       ·have hbad:digB 16 s[k] = none:=by unfold digB;rw [hdv,if_neg (by omega)]
        rw [hbad] at hst;have HR:Hid (parseB 16 0 s.data.toList = none):=hide hst.symm;have x5:decide ((16:Int) <= (d:Int)) = true:=decide_eq_true (by omega);clear hst hbad hdv hL ho u g1 q1 hdl hd;go_wp2_with (go_at_call 220;refine (HC.out _).mono ?_;rintro e w1 ⟨rfl,hw1⟩;obtain rfl:=hw1.symm);go_ret2;exact ⟨by rw [HR.out];rfl,HA0.out.below⟩
      ·have l2':decide ((L:Int) <= 122) = false:=decide_eq_false (by omega);have hv:dgV s[k] = 255:=by rw [hdv,if_neg (by omega)]
       have hbad:digB 16 s[k] = none:=by unfold digB;rw [hv];rfl
       rw [hbad] at hst;have HR:Hid (parseB 16 0 s.data.toList = none):=hide hst.symm;clear hst hbad hv hdv hL ho u g1 q1;go_wp2_with (go_at_call 220;refine (HC.out _).mono ?_;rintro e w1 ⟨rfl,hw1⟩;obtain rfl:=hw1.symm);go_ret2;exact ⟨by rw [HR.out];rfl,HA0.out.below⟩
     ·have l1':decide ((97:Int) <= L) = false:=decide_eq_false (by omega);have hv:dgV s[k] = 255:=by rw [hdv,if_neg (by omega)]
      have hbad:digB 16 s[k] = none:=by unfold digB;rw [hv];rfl
      rw [hbad] at hst;have HR:Hid (parseB 16 0 s.data.toList = none):=hide hst.symm;clear hst hbad hv hdv hL ho u g1 q1;go_wp2_with (go_at_call 220;refine (HC.out _).mono ?_;rintro e w1 ⟨rfl,hw1⟩;obtain rfl:=hw1.symm);go_ret2;exact ⟨by rw [HR.out];rfl,HA0.out.below⟩
  ·have hk2:k = s.size:=by omega
   have HR:Hid (parseB 16 0 s.data.toList = some n):=hide (by rw [<- HG.out,drop_nil s k (by omega)];rfl);clear hk2;go_wp2_with fail;go_ret2;exact ⟨by rw [HR.out];rfl,HA0.out.below⟩
def parseU (b:Nat) (l:List UInt8):Option Nat:=if l = [] then none else parseB b 0 l
def UOut (o:Option Nat) (e:Ending):Prop :=
  match o with
  | some n=>e = .returned (.tuple #[.int .u64 n,.nilIface])
  | none=>∃ N:Nat,e = .returned (.tuple #[.int .u64 0,.iface 240 (.pointer (some ⟨N,0,none⟩))])
theorem iempty10_any (w:World):Calls Tryz.prog 193 #[.string ⟨#[]⟩,.int .i64 10,.int .i64 32] w (fun e w'=>e = .returned (uTup none) /\ Below w.heap.size w w'):=by
 go_enter Tryz.func193,Tryz.ntmps193;go_wp2_with fail;go_ret2;exact ⟨rfl,Below.refl _ _⟩
theorem parse10_any (s:ByteArray) (ev:Value) (w:World) (hs:s.size <= 8) (hv:w.cell? ⟨1,0,none⟩ = some ev) (hev:ev = .nilIface \/ ∃ te pe,ev = .iface te pe) :
  Calls Tryz.prog 170 #[.string s,.int .i64 10,.int .i64 32] w fun e w'=>UOut (parseU 10 s.data.toList) e /\ Below w.heap.size w w':=by
 have HV:=hide hv;have HEV:=hide hev;have HS:=hide hs
 have hlt:1 < w.heap.size:=by
  rcases Nat.lt_or_ge 1 w.heap.size with h1 | h1
  ·exact h1
  ·simp [World.cell?,Array.getElem?_eq_none h1] at hv
 have HLT:=hide hlt;clear hv hev hlt
 have bad:parseU 10 s.data.toList = none -> Calls Tryz.prog 193 #[.string s,.int .i64 10,.int .i64 32] w (fun e w'=>e = .returned (uTup none) /\ Below w.heap.size w w') -> Calls Tryz.prog 170 #[.string s,.int .i64 10,.int .i64 32] w fun e w'=>UOut (parseU 10 s.data.toList) e /\ Below w.heap.size w w':=by
  intro hn hc;have HN:=hide hn;have HC:=hide hc;clear hn hc;go_enter Tryz.func170,Tryz.ntmps170
  go_wp2_with (first
   |(go_at_call 193;refine HC.out.mono ?_;rintro e w1 ⟨rfl,hb1⟩;rw [show uTup none = .tuple #[.int .u64 0,.iface 238 (.int .i64 2)] from rfl];have HB1:=hide hb1;clear hb1)
   |(go_at_call 194;refine (Tryz.strconv_toError_syntax _ s 10 32 ev _ (Nat.le_trans HS.out (by decide)) ((HB1.out.cell (p:=⟨1,0,none⟩) HLT.out).trans HV.out) HEV.out).mono ?_;rintro e w2 ⟨N,rfl,_,_,hb2⟩;have HB2:=hide (HB1.out.trans (hb2.mono HB1.out.size));clear hb2))
  go_ret2;rw [HN.out];exact ⟨⟨N,rfl⟩,HB2.out⟩
 by_cases h0:s.size = 0
 ·have he:s = ⟨#[]⟩:=ext_list (size0 h0).1;have hp:parseU 10 s.data.toList = none:=by unfold parseU;rw [if_pos (size0 h0).1]
  refine bad hp ?_;rw [he];exact iempty10_any w
 ·have hp:parseU 10 s.data.toList = parseB 10 0 s.data.toList:=by unfold parseU;rw [if_neg (sizeP h0).1]
  have hc:=iparse10_any s w hs h0;cases hr:parseB 10 0 s.data.toList with
  | none=>rw [hr] at hp hc;exact bad hp hc
  | some n =>
   rw [hr] at hp hc;have HP:=hide hp;have HC:=hide hc;clear hp hc bad hr;go_enter Tryz.func170,Tryz.ntmps170;go_wp2_with (go_at_call 193;refine HC.out.mono ?_;rintro e w1 ⟨rfl,hb1⟩;rw [show uTup (some n) = .tuple #[.int .u64 n,.nilIface] from rfl];have HB1:=hide hb1;clear hb1);go_ret2;rw [HP.out];exact ⟨rfl,HB1.out⟩
theorem iempty16_any (w:World):Calls Tryz.prog 193 #[.string ⟨#[]⟩,.int .i64 16,.int .i64 32] w (fun e w'=>e = .returned (uTup none) /\ Below w.heap.size w w'):=by
 go_enter Tryz.func193,Tryz.ntmps193;go_wp2_with fail;go_ret2;exact ⟨rfl,Below.refl _ _⟩
theorem parse16_any (s:ByteArray) (ev:Value) (w:World) (hs:s.size <= 8) (hv:w.cell? ⟨1,0,none⟩ = some ev) (hev:ev = .nilIface \/ ∃ te pe,ev = .iface te pe) :
  Calls Tryz.prog 170 #[.string s,.int .i64 16,.int .i64 32] w fun e w'=>UOut (parseU 16 s.data.toList) e /\ Below w.heap.size w w':=by
 have HV:=hide hv;have HEV:=hide hev;have HS:=hide hs
 have hlt:1 < w.heap.size:=by
  rcases Nat.lt_or_ge 1 w.heap.size with h1 | h1
  ·exact h1
  ·simp [World.cell?,Array.getElem?_eq_none h1] at hv
 have HLT:=hide hlt;clear hv hev hlt
 have bad:parseU 16 s.data.toList = none -> Calls Tryz.prog 193 #[.string s,.int .i64 16,.int .i64 32] w (fun e w'=>e = .returned (uTup none) /\ Below w.heap.size w w') -> Calls Tryz.prog 170 #[.string s,.int .i64 16,.int .i64 32] w fun e w'=>UOut (parseU 16 s.data.toList) e /\ Below w.heap.size w w':=by
  intro hn hc;have HN:=hide hn;have HC:=hide hc;clear hn hc;go_enter Tryz.func170,Tryz.ntmps170
  go_wp2_with (first
   |(go_at_call 193;refine HC.out.mono ?_;rintro e w1 ⟨rfl,hb1⟩;rw [show uTup none = .tuple #[.int .u64 0,.iface 238 (.int .i64 2)] from rfl];have HB1:=hide hb1;clear hb1)
   |(go_at_call 194;refine (Tryz.strconv_toError_syntax _ s 16 32 ev _ (Nat.le_trans HS.out (by decide)) ((HB1.out.cell (p:=⟨1,0,none⟩) HLT.out).trans HV.out) HEV.out).mono ?_;rintro e w2 ⟨N,rfl,_,_,hb2⟩;have HB2:=hide (HB1.out.trans (hb2.mono HB1.out.size));clear hb2))
  go_ret2;rw [HN.out];exact ⟨⟨N,rfl⟩,HB2.out⟩
 by_cases h0:s.size = 0
 ·have he:s = ⟨#[]⟩:=ext_list (size0 h0).1;have hp:parseU 16 s.data.toList = none:=by unfold parseU;rw [if_pos (size0 h0).1]
  refine bad hp ?_;rw [he];exact iempty16_any w
 ·have hp:parseU 16 s.data.toList = parseB 16 0 s.data.toList:=by unfold parseU;rw [if_neg (sizeP h0).1]
  have hc:=iparse16_any s w hs h0;cases hr:parseB 16 0 s.data.toList with
  | none=>rw [hr] at hp hc;exact bad hp hc
  | some n =>
   rw [hr] at hp hc;have HP:=hide hp;have HC:=hide hc;clear hp hc bad hr;go_enter Tryz.func170,Tryz.ntmps170;go_wp2_with (go_at_call 193;refine HC.out.mono ?_;rintro e w1 ⟨rfl,hb1⟩;rw [show uTup (some n) = .tuple #[.int .u64 n,.nilIface] from rfl];have HB1:=hide hb1;clear hb1);go_ret2;rw [HP.out];exact ⟨rfl,HB1.out⟩
end Go.Proofs.YtiejmkjpgjbodaaGreatDoor
namespace Go.Proofs.YtiejmkjpgjbodaaGreatDoor
open Go.RowKit Go.Maps Go.WideShapes Go.WideMaps
set_option linter.unusedVariables false
set_option linter.unusedSimpArgs false
set_option maxRecDepth 100000
theorem keyedS:Keyed Tryz.prog 9:=string_keyed Tryz.underlying9
theorem zeroR (w:World):(zeroValue 21).run Tryz.prog w = .ok (.int .i32 0) w:=by kernel_rfl
def SMapN (w:World) (b n:Nat) (f:List UInt8 -> Option Int):Prop :=
  ∃ D:DataW Unit,w.ownsMap Tryz.prog 9 (plainElem Tryz.prog 21) b n D /\ IsMap D /\
    ∀ s:List UInt8,Maps.has D (.string s) = (f s).isSome /\ D.atKey (.string s) (.lit (.int .i32 0)) = .lit (.int .i32 ((f s).getD 0))
theorem SMapN.made (w:World):SMapN (w.alloc (.map #[] 0)) w.heap.size 0 (fun _=>none) :=
 ⟨_,World.ownsMap_made w Tryz.prog _ _,isMap_empty,fun s=>⟨rfl,rfl⟩⟩
theorem SMapN.kept {w w':World} {b n:Nat} {f:List UInt8 -> Option Int} (h:SMapN w b n f) (hb:Below w.heap.size w w'):SMapN w' b n f:=by
 obtain ⟨D,h1,h2,h3⟩:=h;exact ⟨D,h1.kept (row:=none) ⟨hb.os,hb.tape,hb.output,hb.size,fun k hk _=>hb.block k hk⟩ (by simp),h2,h3⟩
theorem SMapN.drew {w:World} {b n:Nat} {f:List UInt8 -> Option Int} (h:SMapN w b n f):SMapN w.drew b n f:=h
theorem SMapN.lt {w:World} {b n:Nat} {f:List UInt8 -> Option Int} (h:SMapN w b n f):b < w.heap.size:=by
 obtain ⟨D,h1,_⟩:=h;exact h1.lt
theorem wpList_sm_insert {ops:Array Oper} {rest:List Oper} {o:Oper} {a:Act} {Q:Exit -> Act -> World -> Prop} {w:World} (hg:o.guard = none) (m x v:Operand) (hop:o.op = Op.insert 132 m x v)
  (w0:World) (n:Nat) (f:List UInt8 -> Option Int) (hm:a.eval m = .map (some w0.heap.size)) (h:SMapN w w0.heap.size n f /\ Below w0.heap.size w0 w) (hn:n < maxLen) (s:ByteArray) (hs:s.size <= maxLen) (c:Int) (hc:(Lit.int .i32 c).wf = true)
  (hx:a.eval x = .string s) (hv:a.eval v = .int .i32 c)
  (hK:∀ w',(SMapN w' w0.heap.size (n + 1) (fun y=>if y = s.data.toList then some c else f y) /\ Below w0.heap.size w0 w') -> wpList Tryz.prog ops Q rest (a.put o.dst undef) w'):wpList Tryz.prog ops Q (o :: rest) a w:=by
 obtain ⟨⟨D,h1,h2,h3⟩,hB⟩:=h;obtain ⟨w',hrun,r1,r2⟩:=h1.update keyedS Tryz.underlying132 hn (keyOf_string_mk Tryz.underlying9 hs) (plainElem_int Tryz.underlying21 hc);refine wpList_plain hg fun K' hK'=>?_
 unfold Oper.wp;simp [execOp,hop,hm,hx,hv,hrun,Result.andThen];refine hK' _ _ (hK w' ⟨⟨_,r1,h2.put _ _,fun y=>?_⟩,hB.grown r2 (Nat.le_of_lt h1.lt) (fun k hk=>by cases hk;exact Nat.le_refl _)⟩)
 by_cases e:y = s.data.toList
 ·subst e;exact ⟨(has_put_same h2 (show WideAt.IsKeyLit (.string s.data.toList) from trivial) _).trans (by simp),(atKey_put_same h2 (show WideAt.IsKeyLit (.string s.data.toList) from trivial) _ _).trans (by simp)⟩
 ·have hne:(Lit.string y) ≠ (Lit.string s.data.toList):=fun h=>e (by injection h)
  obtain ⟨g1,g2⟩:=h3 y;exact ⟨(has_put_other hne _).trans (by simp [g1,e]),(atKey_put_other hne _ _).trans (by simp [g2,e])⟩
theorem wpList_sm_look {ops:Array Oper} {rest:List Oper} {o:Oper} {a:Act} {Q:Exit -> Act -> World -> Prop} {w:World} (hg:o.guard = none) (m x:Operand) (hop:o.op = Op.lookup 132 m x true)
  (b n:Nat) (f:List UInt8 -> Option Int) (hm:a.eval m = .map (some b)) (h:SMapN w b n f) (s:ByteArray) (hs:s.size <= maxLen) (hx:a.eval x = .string s)
  (hK:wpList Tryz.prog ops Q rest (a.put o.dst (.tuple #[.int .i32 ((f s.data.toList).getD 0),.bool (f s.data.toList).isSome])) w):wpList Tryz.prog ops Q (o :: rest) a w:=by
 obtain ⟨D,h1,h2,h3⟩:=h;refine wpList_lookup_own_ok_int w hg m x 132 hop 9 21 .i32 keyedS Tryz.underlying132 Tryz.underlying21 (zeroR w) b n D hm h1 _ (.string s.data.toList) hx (keyOf_string_mk Tryz.underlying9 hs) (fun c hc _=>?_);obtain ⟨g1,g2⟩:=h3 s.data.toList;rw [g2] at hc;injection hc with hc;injection hc with _ hc;rw [g1,<- hc];exact hK
end Go.Proofs.YtiejmkjpgjbodaaGreatDoor
namespace Go.Proofs.YtiejmkjpgjbodaaGreatDoor
open Go.RowKit
set_option linter.unusedVariables false
set_option linter.unusedSimpArgs false
set_option maxRecDepth 100000
set_option maxHeartbeats 16000000
def putN (f:List UInt8 -> Option Int) (k:List UInt8) (c:Int):List UInt8 -> Option Int:=fun y=>if y = k then some c else f y
def nameN:List UInt8 -> Option Int :=
  putN (putN (putN (putN (putN (putN (putN (putN (putN (putN (putN (putN (putN (putN (putN (putN (fun _=>none) [97,109,112] 38) [108,116] 60) [103,116] 62) [113,117,111,116] 34) [97,112,111,115] 39) [110,98,115,112] 160) [99,111,112,121] 169) [114,101,103] 174) [101,117,114,111] 8364) [104,101,108,108,105,112] 8230) [110,100,97,115,104] 8211) [109,100,97,115,104] 8212) [108,115,113,117,111] 8216) [114,115,113,117,111] 8217) [108,100,113,117,111] 8220) [114,100,113,117,111] 8221
theorem signs_any (w:World):Calls Tryz.prog 117 #[] w fun e w'=>e = .returned (.map (some w.heap.size)) /\ SMapN w' w.heap.size 16 nameN /\ Below w.heap.size w w':=by
 have hst:SMapN (w.alloc (.map #[] 0)) w.heap.size 0 (fun _=>none) /\ Below w.heap.size w (w.alloc (.map #[] 0)):=⟨SMapN.made w,(Below.refl _ w).alloc (Nat.le_refl _) _⟩
 have hmm:=@run_makeMap Tryz.prog;go_enter Tryz.func117,Tryz.ntmps117;go_wp2_with (refine wpList_sm_insert rfl _ _ _ rfl w _ _ rfl hst (by decide) _ (by decide) _ (by decide) rfl rfl ?_;clear hst;intro w1 hst);go_ret;exact ⟨rfl,hst.1,hst.2⟩
theorem vStep_pos' (l:List UInt8) (h:l ≠ []):1 <= (vStep l).2 /\ (vStep l).2 <= l.length /\ 1 <= (vStep l).1.length /\ (vStep l).1.length <= 3 * (vStep l).2:=by
 have hw:=wholeN_le l;have hl:=List.length_pos_iff.2 h
 by_cases hz:wholeN l = 0
 ·rw [vStep_zero hz];simp [bad];omega
 ·rw [vStep_pos rfl hz];simp;omega
def validL (l:List UInt8):List UInt8:=if h:l = [] then [] else (vStep l).1 ++ validL (l.drop (vStep l).2)
termination_by l.length
decreasing_by
  have h1:=vStep_pos' l h
  have h2:=List.length_pos_iff.2 h
  rw [List.length_drop];omega
theorem validL_nil:validL [] = []:=by rw [validL];simp
theorem validL_cons {l:List UInt8} (h:l ≠ []):validL l = (vStep l).1 ++ validL (l.drop (vStep l).2):=by rw [validL,dif_neg h]
theorem valid_round {L acc T:List UInt8} (h:acc ++ validL L = T) (hi:L ≠ []):(acc ++ (vStep L).1) ++ validL (L.drop (vStep L).2) = T:=by
 rw [<- h,validL_cons hi,List.append_assoc]
def winTab:List Int:=[8364,129,8218,402,8222,8230,8224,8225,710,8240,352,8249,338,141,381,143,144,8216,8217,8220,8221,8226,8211,8212,732,8482,353,8250,339,157,382,376]
def winR (c:UInt8):Int:=if 128 <= c.toNat /\ c.toNat < 160 then winTab.getD (c.toNat - 128) 0 else c.toNat
def winL (l:List UInt8):List UInt8:=l.flatMap fun c=>runeL (winR c)
theorem winL_cons (c:UInt8) (l:List UInt8):winL (c :: l) = runeL (winR c) ++ winL l:=rfl
theorem winR_length (c:UInt8):(runeL (winR c)).length <= 3 :=
 u8_all (p:=fun c=>(runeL (winR c)).length <= 3) (by decide +kernel) c
theorem winR_case (c:UInt8):(c.toNat < 128 /\ winR c = c.toNat) \/ (128 <= c.toNat /\ c.toNat < 160 /\ winR c = winTab.getD (c.toNat - 128) 0) \/ (160 <= c.toNat /\ winR c = c.toNat):=by
 unfold winR
 by_cases h:128 <= c.toNat /\ c.toNat < 160
 ·rw [if_pos h];exact .inr (.inl ⟨h.1,h.2,rfl⟩)
 ·rw [if_neg h]
  by_cases h':c.toNat < 128
  ·exact .inl ⟨h',rfl⟩
  ·exact .inr (.inr ⟨by omega,rfl⟩)
theorem winR_range (c:UInt8):0 <= winR c /\ winR c <= 65535 :=
 u8_all (p:=fun c=>0 <= winR c /\ winR c <= 65535) (by decide +kernel) c
def num (big:Bool) (a b:UInt8):Nat:=if big then 256 * a.toNat + b.toNat else 256 * b.toNat + a.toNat
theorem num_lt (big:Bool) (a b:UInt8):num big a b < 65536:=by
 have:=byte_lt a;have:=byte_lt b
 unfold num;split <;> omega
def unitsL (big:Bool):List UInt8 -> List Nat
  | a :: b :: r=>num big a b :: unitsL big r
  | _=>[]
def pairV (a b:Nat):Int:=65536 + 1024 * ((a:Int) - 55296) + ((b:Int) - 56320)
def u16:List Nat -> List UInt8
  | a :: b :: r=>if 55296 <= a /\ a <= 56319 /\ 56320 <= b /\ b <= 57343 then runeL (pairV a b) ++ u16 r else runeL a ++ u16 (b :: r)
  | [a]=>runeL a
  | []=>[]
def tailL (l:List UInt8):List UInt8:=if l.length % 2 = 1 then bad else []
def pairsL (big:Bool) (l:List UInt8):List UInt8:=u16 (unitsL big l) ++ tailL l
def fsT (big:Bool) (x:Nat):List UInt8 -> Int × Nat
  | c :: d :: _=>if 56320 <= num big c d /\ num big c d < 57344 then (pairV x (num big c d),4) else (65533,2)
  | _=>(65533,2)
def fsS (big:Bool):List UInt8 -> Int × Nat
  | a :: b :: r=>if num big a b < 55296 \/ 57344 <= num big a b then (num big a b,2) else if num big a b < 56320 then fsT big (num big a b) r else (65533,2)
  | _=>(65533,1)
theorem tailL_drop (l:List UInt8) (k:Nat) (h:2 * k <= l.length):tailL (l.drop (2 * k)) = tailL l:=by
 unfold tailL;rw [List.length_drop,show (l.length - 2 * k) % 2 = l.length % 2 from by omega]
theorem pairs_step (big:Bool) (l:List UInt8) (h:2 <= l.length):pairsL big l = runeL (fsS big l).1 ++ pairsL big (l.drop (fsS big l).2) /\ ((fsS big l).2 = 2 \/ (fsS big l).2 = 4) /\ (fsS big l).2 <= l.length /\ 0 <= (fsS big l).1 /\ (fsS big l).1 <= 1114111:=by
 match l,h with
 | a :: b :: r,h =>
  have hn:=num_lt big a b;have ht2:tailL ((a :: b :: r).drop 2) = tailL (a :: b :: r):=tailL_drop _ 1 h
  by_cases h1:num big a b < 55296 \/ 57344 <= num big a b
  ·have e:fsS big (a :: b :: r) = (((num big a b:Nat):Int),2):=by rw [fsS,if_pos h1]
   rw [e];refine ⟨?_,.inl rfl,h,by show (0:Int) <= _;omega,by show ((num big a b:Nat):Int) <= _;omega⟩;unfold pairsL;rw [ht2,<- List.append_assoc]
   congr 1
   show u16 (num big a b :: unitsL big r) = runeL _ ++ u16 (unitsL big r)
   cases unitsL big r with
   | nil=>simp [u16]
   | cons y t=>rw [u16,if_neg (by omega)]
  ·by_cases h2:num big a b < 56320
   ·match r with
    | c :: d :: r =>
     have hm:=num_lt big c d
     by_cases h3:56320 <= num big c d /\ num big c d < 57344
     ·have e:fsS big (a :: b :: c :: d :: r) = (pairV (num big a b) (num big c d),4):=by rw [fsS,if_neg h1,if_pos h2,fsT,if_pos h3]
      rw [e];refine ⟨?_,.inr rfl,by simp,by show 0 <= pairV _ _;unfold pairV;omega,by show pairV _ _ <= _;unfold pairV;omega⟩;have ht4:tailL ((a :: b :: c :: d :: r).drop 4) = tailL (a :: b :: c :: d :: r):=tailL_drop _ 2 (by simp);unfold pairsL;rw [ht4,<- List.append_assoc]
      congr 1
      show u16 (num big a b :: num big c d :: unitsL big r) = runeL _ ++ u16 (unitsL big r)
      rw [u16,if_pos (by omega)]
     ·have e:fsS big (a :: b :: c :: d :: r) = (65533,2):=by rw [fsS,if_neg h1,if_pos h2,fsT,if_neg h3]
      rw [e];refine ⟨?_,.inl rfl,h,by decide,by decide⟩;unfold pairsL;rw [ht2,<- List.append_assoc]
      congr 1
      show u16 (num big a b :: num big c d :: unitsL big r) = runeL _ ++ u16 (num big c d :: unitsL big r)
      rw [u16,if_neg (by omega),runeL_bad',runeL_bad (by omega)]
    | [] =>
     have e:fsS big [a,b] = (65533,2):=by rw [fsS,if_neg h1,if_pos h2];rfl
     rw [e];refine ⟨?_,.inl rfl,h,by decide,by decide⟩;unfold pairsL;rw [ht2,<- List.append_assoc]
     congr 1
     show u16 [num big a b] = runeL _ ++ u16 []
     rw [u16,u16,List.append_nil,runeL_bad',runeL_bad (by omega)]
    | [c] =>
     have e:fsS big [a,b,c] = (65533,2):=by rw [fsS,if_neg h1,if_pos h2];rfl
     rw [e];refine ⟨?_,.inl rfl,h,by decide,by decide⟩;unfold pairsL;rw [ht2,<- List.append_assoc]
     congr 1
     show u16 [num big a b] = runeL _ ++ u16 []
     rw [u16,u16,List.append_nil,runeL_bad',runeL_bad (by omega)]
   ·have e:fsS big (a :: b :: r) = (65533,2):=by rw [fsS,if_neg h1,if_neg h2]
    rw [e];refine ⟨?_,.inl rfl,h,by decide,by decide⟩;unfold pairsL;rw [ht2,<- List.append_assoc]
    congr 1
    show u16 (num big a b :: unitsL big r) = runeL _ ++ u16 (unitsL big r)
    rw [runeL_bad'];cases unitsL big r with
    | nil=>rw [u16,u16,List.append_nil,runeL_bad (by omega)]
    | cons y t=>rw [u16,if_neg (by omega),runeL_bad (by omega)]
theorem pairs_short (big:Bool) (l:List UInt8) (h:l.length < 2):pairsL big l = if l.length = 1 then bad else []:=by
 match l,h with
 | [],_=>rfl
 | [a],_=>rfl
def cleanL (l:List UInt8):List UInt8:=lowL (Lib.trimS l whiteSet)
def labels : List (List UInt8) :=
  [[117, 116, 102, 45, 56], [117, 116, 102, 56], [117, 110, 105, 99, 111, 100, 101, 45, 49, 45, 49, 45, 117, 116, 102, 45, 56],
   [119, 105, 110, 100, 111, 119, 115, 45, 49, 50, 53, 50], [99, 112, 49, 50, 53, 50], [117, 115, 45, 97, 115, 99, 105, 105], [97, 115, 99, 105, 105], [105, 115, 111, 45, 56, 56, 53, 57, 45, 49], [105, 115, 111, 56, 56, 53, 57, 45, 49], [108, 97, 116, 105, 110, 49], [108, 49],
   [117, 116, 102, 45, 49, 54, 108, 101], [117, 116, 102, 45, 49, 54], [117, 110, 105, 99, 111, 100, 101], [117, 99, 115, 45, 50],
   [117, 116, 102, 45, 49, 54, 98, 101], [117, 110, 105, 99, 111, 100, 101, 102, 102, 102, 101]]
def kindOf (x:List UInt8):Nat:=if labels.idxOf x < 3 then 1 else if labels.idxOf x < 11 then 2 else if labels.idxOf x < 15 then 3 else if labels.idxOf x < 17 then 4 else 0
def kindL (l:List UInt8):Nat:=kindOf (cleanL l)
def nameL:Nat -> List UInt8
  | 1=>[117,116,102,45,56]
  | 2=>[119,105,110,100,111,119,115,45,49,50,53,50]
  | 3=>[117,116,102,45,49,54,108,101]
  | 4=>[117,116,102,45,49,54,98,101]
  | _=>[]
theorem kind_lt (l:List UInt8):kindL l < 5:=by
 unfold kindL kindOf;repeat' split
 all_goals omega
def knownV (k:Nat):Value:=.tuple #[.string (str (nameL k)),.bool (decide (0 < k))]
def decodeL (k:Nat) (l:List UInt8):List UInt8:=if k = 2 then winL l else if k = 3 then pairsL false l else if k = 4 then pairsL true l else validL l
theorem dropWhile_le (p:UInt8 -> Bool) (l:List UInt8):(l.dropWhile p).length <= l.length:=(List.dropWhile_sublist (l:=l) p).length_le
theorem trimS_length (l cs:List UInt8):(Lib.trimS l cs).length <= l.length:=by
 unfold Lib.trimS Lib.trimLeftS Lib.trimRightS;have h1:=dropWhile_le (fun x=>cs.contains x) ((l.reverse.dropWhile fun x=>cs.contains x).reverse);have h2:=dropWhile_le (fun x=>cs.contains x) l.reverse;rw [List.length_reverse] at h1 h2;omega
theorem kind_none {x:List UInt8} (h:∀ y ∈ labels,x ≠ y):kindOf x = 0:=by
 have e:labels.idxOf x = 17:=by
  have:x ∉ labels:=fun hm=>h x hm rfl
  rw [List.idxOf_eq_length this];rfl
 unfold kindOf;rw [e];rfl
theorem listT {X:ByteArray} {x y:List UInt8} (hX:X = str x) (h:x = y):(X.toList == y) = true:=by
 rw [hX,str_list,h];simp
theorem listF {X:ByteArray} {x y:List UInt8} (hX:X = str x) (h:x ≠ y):(X.toList == y) = false:=by
 rw [hX,str_list];simp [h]
theorem trim_any (s:ByteArray) (w:World) (hs:s.size <= maxLen) :
  Calls Tryz.prog 248 #[.string s,.string ⟨#[32,9,10,12,13]⟩] w fun e w'=>e = .returned (.string (str (Lib.trimS s.data.toList whiteSet))) /\ Below w.heap.size w w' :=
 Any.strings_Trim_laid Tryz.lays160 (by kernel_rfl) s ⟨#[32,9,10,12,13]⟩ w (by unfold maxLen at hs;omega) (by decide) (ascii_of_all (by decide))
def IterKept (w w':World):Prop:=∀ (b:Nat) (s:ByteArray) (p:Nat),w.heap[b]? = some (Obj.stringIter s p) -> w'.heap[b]? = some (Obj.stringIter s p)
theorem buf_not_iter {B:Nat} {v:Value} {l:List UInt8} {W0 w:World} (h:Buf B v l W0 w) {b:Nat} {s:ByteArray} {p:Nat} (hb:w.heap[b]? = some (Obj.stringIter s p)):v.ownBlock ≠ some b:=by
 rcases h.1.2 with ⟨rfl,_⟩ | ⟨g,cap,cur,rfl,_,hh,_⟩
 ·simp [Value.ownBlock]
 ·intro he;have e:g = b:=by simpa [Value.ownBlock] using he
  subst e;rw [hh] at hb;cases hb
theorem iter_own {B:Nat} {v:Value} {l:List UInt8} {W0 w w':World} (h:Buf B v l W0 w) (hg:w.grownBy w' v.ownBlock):IterKept w w':=fun b s p hb =>
 (hg.block b (Array.getElem?_eq_some_iff.1 hb).1 (fun e=>buf_not_iter h hb e.symm)).trans hb
theorem appendRune_any (B:Nat) (v:Value) (l:List UInt8) (W0 w:World) (hb:Buf B v l W0 w) (r:Int) (h0:0 <= r) (h1:r <= 1114111) (hl:l.length <= 70368744177664) :
  Calls Tryz.prog 147 #[v,.int .i32 r] w fun e w'=>∃ v',e = .returned v' /\ Buf B v' (l ++ runeL r) W0 w' /\ IterKept w w':=by
 refine (Tryz.utf8_AppendRune_plain B v l.length (cellsOf l) r (by omega) (by omega) w hb.1 (by omega) hb.2.2).mono ?_;rintro e w' ⟨v',rfl,ho,o,hg⟩;have hb':=hb.alloc o;refine ⟨v',rfl,hb'.grown (l':=l ++ runeL r) ?_ hg,fun b s p hx=>iter_own hb' hg b s p ?_⟩
 ·have e:Lib.runeCells r = cellsOf (runeL r):=(Lib.byteCells_encodeRune r).symm;have e2:(Lib.runeCells r).length = (runeL r).length:=by rw [e,cellsOf_length]
  rw [e2,e] at ho;rw [List.length_append,cellsOf,List.map_append];exact ho
 ·exact (Below.heap_alloc w o b (Array.getElem?_eq_some_iff.1 hx).1).trans hx
theorem Buf.iterAt {B:Nat} {v:Value} {l:List UInt8} {W0 w:World} (h:Buf B v l W0 w) {k:Nat} {s:ByteArray} {p:Nat} (hk:w.heap[k]? = some (Obj.stringIter s p)) (hB:B <= k) (p':Nat):Buf B v l W0 (w.iterAt k s p'):=by
 have hne:=buf_not_iter h hk;refine ⟨⟨h.1.1,?_⟩,Lib.below_iterAt h.2.1 hB s p',by rw [Lib.iterAt_size];exact h.2.2⟩;rcases h.1.2 with ⟨rfl,h0⟩ | ⟨g,cap,cur,rfl,h1,h2,h3⟩
 ·exact .inl ⟨rfl,h0⟩
 ·refine .inr ⟨g,cap,cur,rfl,h1,?_,h3⟩;rw [Lib.iterAt_other _ _ _ _ _ (fun e=>hne (by simp [Value.ownBlock,e]))];exact h2
theorem known_any (s:ByteArray) (w:World) (hs:s.size <= 70368744177664) :
  Calls Tryz.prog 226 #[.string s] w fun e w'=>e = .returned (knownV (kindL s.data.toList)) /\ Below w.heap.size w w':=by
 obtain ⟨x,hx⟩:∃ x,x = cleanL s.data.toList:=⟨_,rfl⟩
 obtain ⟨X,hX⟩:∃ X,X = str x:=⟨_,rfl⟩
 have HX:Hid (str (cleanL s.data.toList) = X):=hide (by rw [hX,hx]);have hk:kindL s.data.toList = kindOf x:=by rw [hx];rfl
 rw [hk];have HXX:=hide hX
 have HSZ:Hid ((str (Lib.trimS s.data.toList whiteSet)).size <= 70368744177664):=hide (by
  rw [str_size];have h:=trimS_length s.data.toList whiteSet;rw [toList_length] at h;omega)
 clear hx hX hk
 by_cases h0:x = [117,116,102,45,56]
 ·have HV:Hid (knownV (kindOf x) = .tuple #[.string ⟨#[117,116,102,45,56]⟩,.bool true]):=hide (by rw [h0,show kindOf [117,116,102,45,56] = 1 from by decide +kernel];rfl);have t0:(X.toList == [117,116,102,45,56]) = true:=listT HXX.out h0;clear h0;go_enter Tryz.func226,Tryz.ntmps226;go_wp2_with fail;refine (trim_any s _ (by unfold maxLen;omega)).mono ?_;rintro e w1 ⟨rfl,hb1⟩;go_wp2_with fail;refine (lower_any _ _ HSZ.out).mono ?_;rintro e w2 ⟨rfl,hb2⟩;rw [str_toList,show lowL (Lib.trimS s.data.toList whiteSet) = cleanL s.data.toList from rfl,HX.out];have hbb:=hb1.trans (hb2.mono hb1.size);go_wp2_with fail;go_ret2;exact ⟨by rw [HV.out];rfl,hbb⟩
 have t0:(X.toList == [117,116,102,45,56]) = false:=listF HXX.out h0
 by_cases h1:x = [117,116,102,56]
 ·have HV:Hid (knownV (kindOf x) = .tuple #[.string ⟨#[117,116,102,45,56]⟩,.bool true]):=hide (by rw [h1,show kindOf [117,116,102,56] = 1 from by decide +kernel];rfl);have t1:(X.toList == [117,116,102,56]) = true:=listT HXX.out h1;clear h0 h1;go_enter Tryz.func226,Tryz.ntmps226;go_wp2_with fail;refine (trim_any s _ (by unfold maxLen;omega)).mono ?_;rintro e w1 ⟨rfl,hb1⟩;go_wp2_with fail;refine (lower_any _ _ HSZ.out).mono ?_;rintro e w2 ⟨rfl,hb2⟩;rw [str_toList,show lowL (Lib.trimS s.data.toList whiteSet) = cleanL s.data.toList from rfl,HX.out];have hbb:=hb1.trans (hb2.mono hb1.size);go_wp2_with fail;go_ret2;exact ⟨by rw [HV.out];rfl,hbb⟩
 have t1:(X.toList == [117,116,102,56]) = false:=listF HXX.out h1
 by_cases h2:x = [117,110,105,99,111,100,101,45,49,45,49,45,117,116,102,45,56]
 ·have HV:Hid (knownV (kindOf x) = .tuple #[.string ⟨#[117,116,102,45,56]⟩,.bool true]):=hide (by rw [h2,show kindOf [117,110,105,99,111,100,101,45,49,45,49,45,117,116,102,45,56] = 1 from by decide +kernel];rfl);have t2:(X.toList == [117,110,105,99,111,100,101,45,49,45,49,45,117,116,102,45,56]) = true:=listT HXX.out h2;clear h0 h1 h2;go_enter Tryz.func226,Tryz.ntmps226;go_wp2_with fail;refine (trim_any s _ (by unfold maxLen;omega)).mono ?_;rintro e w1 ⟨rfl,hb1⟩;go_wp2_with fail;refine (lower_any _ _ HSZ.out).mono ?_;rintro e w2 ⟨rfl,hb2⟩;rw [str_toList,show lowL (Lib.trimS s.data.toList whiteSet) = cleanL s.data.toList from rfl,HX.out];have hbb:=hb1.trans (hb2.mono hb1.size);go_wp2_with fail;go_ret2;exact ⟨by rw [HV.out];rfl,hbb⟩
 have t2:(X.toList == [117,110,105,99,111,100,101,45,49,45,49,45,117,116,102,45,56]) = false:=listF HXX.out h2
 by_cases h3:x = [119,105,110,100,111,119,115,45,49,50,53,50]
 ·have HV:Hid (knownV (kindOf x) = .tuple #[.string ⟨#[119,105,110,100,111,119,115,45,49,50,53,50]⟩,.bool true]):=hide (by rw [h3,show kindOf [119,105,110,100,111,119,115,45,49,50,53,50] = 2 from by decide +kernel];rfl);have t3:(X.toList == [119,105,110,100,111,119,115,45,49,50,53,50]) = true:=listT HXX.out h3;clear h0 h1 h2 h3;go_enter Tryz.func226,Tryz.ntmps226;go_wp2_with fail;refine (trim_any s _ (by unfold maxLen;omega)).mono ?_;rintro e w1 ⟨rfl,hb1⟩;go_wp2_with fail;refine (lower_any _ _ HSZ.out).mono ?_;rintro e w2 ⟨rfl,hb2⟩;rw [str_toList,show lowL (Lib.trimS s.data.toList whiteSet) = cleanL s.data.toList from rfl,HX.out];have hbb:=hb1.trans (hb2.mono hb1.size);go_wp2_with fail;go_ret2;exact ⟨by rw [HV.out];rfl,hbb⟩
 have t3:(X.toList == [119,105,110,100,111,119,115,45,49,50,53,50]) = false:=listF HXX.out h3
 by_cases h4:x = [99,112,49,50,53,50]
 ·have HV:Hid (knownV (kindOf x) = .tuple #[.string ⟨#[119,105,110,100,111,119,115,45,49,50,53,50]⟩,.bool true]):=hide (by rw [h4,show kindOf [99,112,49,50,53,50] = 2 from by decide +kernel];rfl);have t4:(X.toList == [99,112,49,50,53,50]) = true:=listT HXX.out h4;clear h0 h1 h2 h3 h4;go_enter Tryz.func226,Tryz.ntmps226;go_wp2_with fail;refine (trim_any s _ (by unfold maxLen;omega)).mono ?_;rintro e w1 ⟨rfl,hb1⟩;go_wp2_with fail;refine (lower_any _ _ HSZ.out).mono ?_;rintro e w2 ⟨rfl,hb2⟩;rw [str_toList,show lowL (Lib.trimS s.data.toList whiteSet) = cleanL s.data.toList from rfl,HX.out];have hbb:=hb1.trans (hb2.mono hb1.size);go_wp2_with fail;go_ret2;exact ⟨by rw [HV.out];rfl,hbb⟩
 have t4:(X.toList == [99,112,49,50,53,50]) = false:=listF HXX.out h4
 by_cases h5:x = [117,115,45,97,115,99,105,105]
 ·have HV:Hid (knownV (kindOf x) = .tuple #[.string ⟨#[119,105,110,100,111,119,115,45,49,50,53,50]⟩,.bool true]):=hide (by rw [h5,show kindOf [117,115,45,97,115,99,105,105] = 2 from by decide +kernel];rfl);have t5:(X.toList == [117,115,45,97,115,99,105,105]) = true:=listT HXX.out h5;clear h0 h1 h2 h3 h4 h5;go_enter Tryz.func226,Tryz.ntmps226;go_wp2_with fail;refine (trim_any s _ (by unfold maxLen;omega)).mono ?_;rintro e w1 ⟨rfl,hb1⟩;go_wp2_with fail;refine (lower_any _ _ HSZ.out).mono ?_;rintro e w2 ⟨rfl,hb2⟩;rw [str_toList,show lowL (Lib.trimS s.data.toList whiteSet) = cleanL s.data.toList from rfl,HX.out];have hbb:=hb1.trans (hb2.mono hb1.size);go_wp2_with fail;go_ret2;exact ⟨by rw [HV.out];rfl,hbb⟩
 have t5:(X.toList == [117,115,45,97,115,99,105,105]) = false:=listF HXX.out h5
 by_cases h6:x = [97,115,99,105,105]
 ·have HV:Hid (knownV (kindOf x) = .tuple #[.string ⟨#[119,105,110,100,111,119,115,45,49,50,53,50]⟩,.bool true]):=hide (by rw [h6,show kindOf [97,115,99,105,105] = 2 from by decide +kernel];rfl);have t6:(X.toList == [97,115,99,105,105]) = true:=listT HXX.out h6;clear h0 h1 h2 h3 h4 h5 h6;go_enter Tryz.func226,Tryz.ntmps226;go_wp2_with fail;refine (trim_any s _ (by unfold maxLen;omega)).mono ?_;rintro e w1 ⟨rfl,hb1⟩;go_wp2_with fail;refine (lower_any _ _ HSZ.out).mono ?_;rintro e w2 ⟨rfl,hb2⟩;rw [str_toList,show lowL (Lib.trimS s.data.toList whiteSet) = cleanL s.data.toList from rfl,HX.out];have hbb:=hb1.trans (hb2.mono hb1.size);go_wp2_with fail;go_ret2;exact ⟨by rw [HV.out];rfl,hbb⟩
 have t6:(X.toList == [97,115,99,105,105]) = false:=listF HXX.out h6
 by_cases h7:x = [105,115,111,45,56,56,53,57,45,49]
 ·have HV:Hid (knownV (kindOf x) = .tuple #[.string ⟨#[119,105,110,100,111,119,115,45,49,50,53,50]⟩,.bool true]):=hide (by rw [h7,show kindOf [105,115,111,45,56,56,53,57,45,49] = 2 from by decide +kernel];rfl);have t7:(X.toList == [105,115,111,45,56,56,53,57,45,49]) = true:=listT HXX.out h7;clear h0 h1 h2 h3 h4 h5 h6 h7;go_enter Tryz.func226,Tryz.ntmps226;go_wp2_with fail;refine (trim_any s _ (by unfold maxLen;omega)).mono ?_;rintro e w1 ⟨rfl,hb1⟩;go_wp2_with fail;refine (lower_any _ _ HSZ.out).mono ?_;rintro e w2 ⟨rfl,hb2⟩;rw [str_toList,show lowL (Lib.trimS s.data.toList whiteSet) = cleanL s.data.toList from rfl,HX.out];have hbb:=hb1.trans (hb2.mono hb1.size);go_wp2_with fail;go_ret2;exact ⟨by rw [HV.out];rfl,hbb⟩
 have t7:(X.toList == [105,115,111,45,56,56,53,57,45,49]) = false:=listF HXX.out h7
 by_cases h8:x = [105,115,111,56,56,53,57,45,49]
 ·have HV:Hid (knownV (kindOf x) = .tuple #[.string ⟨#[119,105,110,100,111,119,115,45,49,50,53,50]⟩,.bool true]):=hide (by rw [h8,show kindOf [105,115,111,56,56,53,57,45,49] = 2 from by decide +kernel];rfl);have t8:(X.toList == [105,115,111,56,56,53,57,45,49]) = true:=listT HXX.out h8;clear h0 h1 h2 h3 h4 h5 h6 h7 h8;go_enter Tryz.func226,Tryz.ntmps226;go_wp2_with fail;refine (trim_any s _ (by unfold maxLen;omega)).mono ?_;rintro e w1 ⟨rfl,hb1⟩;go_wp2_with fail;refine (lower_any _ _ HSZ.out).mono ?_;rintro e w2 ⟨rfl,hb2⟩;rw [str_toList,show lowL (Lib.trimS s.data.toList whiteSet) = cleanL s.data.toList from rfl,HX.out];have hbb:=hb1.trans (hb2.mono hb1.size);go_wp2_with fail;go_ret2;exact ⟨by rw [HV.out];rfl,hbb⟩
 have t8:(X.toList == [105,115,111,56,56,53,57,45,49]) = false:=listF HXX.out h8
 by_cases h9:x = [108,97,116,105,110,49]
 ·have HV:Hid (knownV (kindOf x) = .tuple #[.string ⟨#[119,105,110,100,111,119,115,45,49,50,53,50]⟩,.bool true]):=hide (by rw [h9,show kindOf [108,97,116,105,110,49] = 2 from by decide +kernel];rfl);have t9:(X.toList == [108,97,116,105,110,49]) = true:=listT HXX.out h9;clear h0 h1 h2 h3 h4 h5 h6 h7 h8 h9;go_enter Tryz.func226,Tryz.ntmps226;go_wp2_with fail;refine (trim_any s _ (by unfold maxLen;omega)).mono ?_;rintro e w1 ⟨rfl,hb1⟩;go_wp2_with fail;refine (lower_any _ _ HSZ.out).mono ?_;rintro e w2 ⟨rfl,hb2⟩;rw [str_toList,show lowL (Lib.trimS s.data.toList whiteSet) = cleanL s.data.toList from rfl,HX.out];have hbb:=hb1.trans (hb2.mono hb1.size);go_wp2_with fail;go_ret2;exact ⟨by rw [HV.out];rfl,hbb⟩
 have t9:(X.toList == [108,97,116,105,110,49]) = false:=listF HXX.out h9
 by_cases h10:x = [108,49]
 ·have HV:Hid (knownV (kindOf x) = .tuple #[.string ⟨#[119,105,110,100,111,119,115,45,49,50,53,50]⟩,.bool true]):=hide (by rw [h10,show kindOf [108,49] = 2 from by decide +kernel];rfl);have t10:(X.toList == [108,49]) = true:=listT HXX.out h10;clear h0 h1 h2 h3 h4 h5 h6 h7 h8 h9 h10;go_enter Tryz.func226,Tryz.ntmps226;go_wp2_with fail;refine (trim_any s _ (by unfold maxLen;omega)).mono ?_;rintro e w1 ⟨rfl,hb1⟩;go_wp2_with fail;refine (lower_any _ _ HSZ.out).mono ?_;rintro e w2 ⟨rfl,hb2⟩;rw [str_toList,show lowL (Lib.trimS s.data.toList whiteSet) = cleanL s.data.toList from rfl,HX.out];have hbb:=hb1.trans (hb2.mono hb1.size);go_wp2_with fail;go_ret2;exact ⟨by rw [HV.out];rfl,hbb⟩
 have t10:(X.toList == [108,49]) = false:=listF HXX.out h10
 by_cases h11:x = [117,116,102,45,49,54,108,101]
 ·have HV:Hid (knownV (kindOf x) = .tuple #[.string ⟨#[117,116,102,45,49,54,108,101]⟩,.bool true]):=hide (by rw [h11,show kindOf [117,116,102,45,49,54,108,101] = 3 from by decide +kernel];rfl);have t11:(X.toList == [117,116,102,45,49,54,108,101]) = true:=listT HXX.out h11;clear h0 h1 h2 h3 h4 h5 h6 h7 h8 h9 h10 h11;go_enter Tryz.func226,Tryz.ntmps226;go_wp2_with fail;refine (trim_any s _ (by unfold maxLen;omega)).mono ?_;rintro e w1 ⟨rfl,hb1⟩;go_wp2_with fail;refine (lower_any _ _ HSZ.out).mono ?_;rintro e w2 ⟨rfl,hb2⟩;rw [str_toList,show lowL (Lib.trimS s.data.toList whiteSet) = cleanL s.data.toList from rfl,HX.out];have hbb:=hb1.trans (hb2.mono hb1.size);go_wp2_with fail;go_ret2;exact ⟨by rw [HV.out];rfl,hbb⟩
 have t11:(X.toList == [117,116,102,45,49,54,108,101]) = false:=listF HXX.out h11
 by_cases h12:x = [117,116,102,45,49,54]
 ·have HV:Hid (knownV (kindOf x) = .tuple #[.string ⟨#[117,116,102,45,49,54,108,101]⟩,.bool true]):=hide (by rw [h12,show kindOf [117,116,102,45,49,54] = 3 from by decide +kernel];rfl);have t12:(X.toList == [117,116,102,45,49,54]) = true:=listT HXX.out h12;clear h0 h1 h2 h3 h4 h5 h6 h7 h8 h9 h10 h11 h12;go_enter Tryz.func226,Tryz.ntmps226;go_wp2_with fail;refine (trim_any s _ (by unfold maxLen;omega)).mono ?_;rintro e w1 ⟨rfl,hb1⟩;go_wp2_with fail;refine (lower_any _ _ HSZ.out).mono ?_;rintro e w2 ⟨rfl,hb2⟩;rw [str_toList,show lowL (Lib.trimS s.data.toList whiteSet) = cleanL s.data.toList from rfl,HX.out];have hbb:=hb1.trans (hb2.mono hb1.size);go_wp2_with fail;go_ret2;exact ⟨by rw [HV.out];rfl,hbb⟩
 have t12:(X.toList == [117,116,102,45,49,54]) = false:=listF HXX.out h12
 by_cases h13:x = [117,110,105,99,111,100,101]
 ·have HV:Hid (knownV (kindOf x) = .tuple #[.string ⟨#[117,116,102,45,49,54,108,101]⟩,.bool true]):=hide (by rw [h13,show kindOf [117,110,105,99,111,100,101] = 3 from by decide +kernel];rfl);have t13:(X.toList == [117,110,105,99,111,100,101]) = true:=listT HXX.out h13;clear h0 h1 h2 h3 h4 h5 h6 h7 h8 h9 h10 h11 h12 h13;go_enter Tryz.func226,Tryz.ntmps226;go_wp2_with fail;refine (trim_any s _ (by unfold maxLen;omega)).mono ?_;rintro e w1 ⟨rfl,hb1⟩;go_wp2_with fail;refine (lower_any _ _ HSZ.out).mono ?_;rintro e w2 ⟨rfl,hb2⟩;rw [str_toList,show lowL (Lib.trimS s.data.toList whiteSet) = cleanL s.data.toList from rfl,HX.out];have hbb:=hb1.trans (hb2.mono hb1.size);go_wp2_with fail;go_ret2;exact ⟨by rw [HV.out];rfl,hbb⟩
 have t13:(X.toList == [117,110,105,99,111,100,101]) = false:=listF HXX.out h13
 by_cases h14:x = [117,99,115,45,50]
 ·have HV:Hid (knownV (kindOf x) = .tuple #[.string ⟨#[117,116,102,45,49,54,108,101]⟩,.bool true]):=hide (by rw [h14,show kindOf [117,99,115,45,50] = 3 from by decide +kernel];rfl);have t14:(X.toList == [117,99,115,45,50]) = true:=listT HXX.out h14;clear h0 h1 h2 h3 h4 h5 h6 h7 h8 h9 h10 h11 h12 h13 h14;go_enter Tryz.func226,Tryz.ntmps226;go_wp2_with fail;refine (trim_any s _ (by unfold maxLen;omega)).mono ?_;rintro e w1 ⟨rfl,hb1⟩;go_wp2_with fail;refine (lower_any _ _ HSZ.out).mono ?_;rintro e w2 ⟨rfl,hb2⟩;rw [str_toList,show lowL (Lib.trimS s.data.toList whiteSet) = cleanL s.data.toList from rfl,HX.out];have hbb:=hb1.trans (hb2.mono hb1.size);go_wp2_with fail;go_ret2;exact ⟨by rw [HV.out];rfl,hbb⟩
 have t14:(X.toList == [117,99,115,45,50]) = false:=listF HXX.out h14
 by_cases h15:x = [117,116,102,45,49,54,98,101]
 ·have HV:Hid (knownV (kindOf x) = .tuple #[.string ⟨#[117,116,102,45,49,54,98,101]⟩,.bool true]):=hide (by rw [h15,show kindOf [117,116,102,45,49,54,98,101] = 4 from by decide +kernel];rfl);have t15:(X.toList == [117,116,102,45,49,54,98,101]) = true:=listT HXX.out h15;clear h0 h1 h2 h3 h4 h5 h6 h7 h8 h9 h10 h11 h12 h13 h14 h15;go_enter Tryz.func226,Tryz.ntmps226;go_wp2_with fail;refine (trim_any s _ (by unfold maxLen;omega)).mono ?_;rintro e w1 ⟨rfl,hb1⟩;go_wp2_with fail;refine (lower_any _ _ HSZ.out).mono ?_;rintro e w2 ⟨rfl,hb2⟩;rw [str_toList,show lowL (Lib.trimS s.data.toList whiteSet) = cleanL s.data.toList from rfl,HX.out];have hbb:=hb1.trans (hb2.mono hb1.size);go_wp2_with fail;go_ret2;exact ⟨by rw [HV.out];rfl,hbb⟩
 have t15:(X.toList == [117,116,102,45,49,54,98,101]) = false:=listF HXX.out h15
 by_cases h16:x = [117,110,105,99,111,100,101,102,102,102,101]
 ·have HV:Hid (knownV (kindOf x) = .tuple #[.string ⟨#[117,116,102,45,49,54,98,101]⟩,.bool true]):=hide (by rw [h16,show kindOf [117,110,105,99,111,100,101,102,102,102,101] = 4 from by decide +kernel];rfl);have t16:(X.toList == [117,110,105,99,111,100,101,102,102,102,101]) = true:=listT HXX.out h16;clear h0 h1 h2 h3 h4 h5 h6 h7 h8 h9 h10 h11 h12 h13 h14 h15 h16;go_enter Tryz.func226,Tryz.ntmps226;go_wp2_with fail;refine (trim_any s _ (by unfold maxLen;omega)).mono ?_;rintro e w1 ⟨rfl,hb1⟩;go_wp2_with fail;refine (lower_any _ _ HSZ.out).mono ?_;rintro e w2 ⟨rfl,hb2⟩;rw [str_toList,show lowL (Lib.trimS s.data.toList whiteSet) = cleanL s.data.toList from rfl,HX.out];have hbb:=hb1.trans (hb2.mono hb1.size);go_wp2_with fail;go_ret2;exact ⟨by rw [HV.out];rfl,hbb⟩
 have t16:(X.toList == [117,110,105,99,111,100,101,102,102,102,101]) = false:=listF HXX.out h16
 have HV:Hid (knownV (kindOf x) = .tuple #[.string ⟨#[]⟩,.bool false]):=hide (by
  rw [kind_none (x:=x) (by
   intro y hy;simp only [labels,List.mem_cons,List.mem_nil_iff,or_false] at hy;rcases hy with rfl | rfl | rfl | rfl | rfl | rfl | rfl | rfl | rfl | rfl | rfl | rfl | rfl | rfl | rfl | rfl | rfl
   all_goals assumption)]
  rfl)
 clear h0 h1 h2 h3 h4 h5 h6 h7 h8 h9 h10 h11 h12 h13 h14 h15 h16;go_enter Tryz.func226,Tryz.ntmps226;go_wp2_with fail;refine (trim_any s _ (by unfold maxLen;omega)).mono ?_;rintro e w1 ⟨rfl,hb1⟩;go_wp2_with fail;refine (lower_any _ _ HSZ.out).mono ?_;rintro e w2 ⟨rfl,hb2⟩;rw [str_toList,show lowL (Lib.trimS s.data.toList whiteSet) = cleanL s.data.toList from rfl,HX.out];have hbb:=hb1.trans (hb2.mono hb1.size);go_wp2_with fail;go_ret2;exact ⟨by rw [HV.out];rfl,hbb⟩
theorem valid_any (s:ByteArray) (w:World) (hs:s.size <= 1048576) :
  Calls Tryz.prog 229 #[.string s] w fun e w'=>e = .returned (.string (str (validL s.data.toList))) /\ Below w.heap.size w w':=by
 go_enter Tryz.func229,Tryz.ntmps229;go_wp2_with (refine wpList_buf_make rfl _ _ rfl w.heap.size w (Below.refl _ _) (Nat.le_refl _) s.size s.size rfl rfl rfl (by omega) ?_;intro v0 w0 hb0);have hbz:=hb0.2.2;have hit:(w0.iter s 0).heap[w0.heap.size]? = some (Obj.stringIter s 0):=heap_alloc_new w0 _;go_loopw [3] (fun v wr=>∃ (pos:Nat) (acc:List UInt8),pos <= s.size /\ wr.heap[w0.heap.size]? = some (Obj.stringIter s pos) /\ Buf w.heap.size v acc w wr /\ acc.length <= 3 * pos /\ acc ++ validL (s.data.toList.drop pos) = validL s.data.toList) (fun _ wr=>s.size - wr.iterPos w0.heap.size)
 case atStart=>exact ⟨0,[],Nat.zero_le _,hit,hb0.alloc _,Nat.le_refl _,by simp⟩
 case round =>
  obtain ⟨pos,acc,hpos,hk,hb,hacc,hd⟩:=hrel;have HB:=hide hb;have HK:=hide hk;clear hb hk
  by_cases hlt:pos < s.size
  ·have hnx:=fun ty=>Lib.run_next_any_at (P:=Tryz.prog) wr w0.heap.size s pos ty HK.out hlt
   have hne:s.data.toList.drop pos ≠ []:=by rw [drop_cons s pos hlt];simp
   have hsp:=decL_spec _ hne;have hst:=vStep_pos' _ hne;have hR:=valid_round hd hne;rw [List.drop_drop] at hR;rw [decode_decL s pos hlt] at hnx;rw [List.length_drop,toList_length] at hst;generalize decL (s.data.toList.drop pos) = dl at hnx hsp;obtain ⟨r,n⟩:=dl;simp only at hsp hnx;rw [<- hsp.1,<- hsp.2.1] at hR;rw [<- hsp.1,<- hsp.2.1] at hst;have hr:=hsp.2.2;clear hsp;obtain ⟨hn1,hn2,hn3,hn4⟩:=hst;have HR:=hide hR;have HI:=hide (Lib.iterAt_heap wr w0.heap.size s pos (pos + n) HK.out);have HB1:=hide (HB.out.iterAt HK.out (by omega) (pos + n));clear hR hd hne;go_wp2_with fail;refine (appendRune_any w.heap.size u3 acc w _ HB1.out (r:Int) (by omega) (by omega) (by omega)).mono ?_;rintro e w1 ⟨v1,rfl,hb1,hi1⟩;have HB2:=hide hb1;have HI2:=hide (hi1 _ _ _ HI.out);clear hb1 hi1;go_wp2_with fail;go_roundw
   case rel=>exact ⟨pos + n,acc ++ _,by omega,HI2.out,HB2.out,by rw [List.length_append];omega,HR.out⟩
   case measure =>
    have e1:World.iterPos w1 w0.heap.size = pos + n:=by unfold World.iterPos;rw [HI2.out]
    have e2:World.iterPos wr w0.heap.size = pos:=by unfold World.iterPos;rw [HK.out]
    rw [e1,e2];omega
  ·have hnx:=fun ty=>Lib.run_next_end_at (P:=Tryz.prog) wr w0.heap.size s pos ty HK.out hlt
   have hcv:=HB.out.convert;go_wp2;go_ret;refine ⟨?_,HB.out.below⟩;rw [drop_nil s pos (by omega),validL_nil,List.append_nil] at hd;exact ret_str (by rw [hd])
def Tab (w:World):Prop:=∀ j:Nat,j < 32 -> w.cell? ⟨3,j,none⟩ = some (.int .i32 (winTab.getD j 0))
theorem Tab.lt {w:World} (h:Tab w):3 < w.heap.size:=by
 have:=h 0 (by omega);rcases Nat.lt_or_ge 3 w.heap.size with h1 | h1
 ·exact h1
 ·unfold World.cell? at this;rw [Array.getElem?_eq_none h1] at this;cases this
theorem Tab.below {B:Nat} {w w':World} (h:Tab w) (hb:Below B w w') (hB:3 < B):Tab w':=fun j hj=>by
 rw [<- h j hj];exact hb.cell (by exact hB)
theorem fromWindows_any (s:ByteArray) (w:World) (hs:s.size <= 1048576) (hT:Tab w) :
  Calls Tryz.prog 227 #[.string s] w fun e w'=>e = .returned (.string (str (winL s.data.toList))) /\ Below w.heap.size w w':=by
 have HT:=hide hT;have h0:=hT.lt;clear hT;go_enter Tryz.func227,Tryz.ntmps227;go_wp2_with (refine wpList_buf_make rfl _ _ rfl w.heap.size w (Below.refl _ _) (Nat.le_refl _) s.size s.size rfl rfl rfl (by omega) ?_;intro v0 w0 hb0);go_loopw [3,12] (fun v i wr=>∃ (k:Nat) (acc:List UInt8),k <= s.size /\ i = .int .i64 k /\ Buf w.heap.size v acc w wr /\ acc.length <= 3 * k /\ acc ++ winL (s.data.toList.drop k) = winL s.data.toList) (fun _ i _=>s.size - (intOf i).toNat)
 case atStart=>exact ⟨0,[],Nat.zero_le _,rfl,hb0,Nat.le_refl _,by simp⟩
 case round =>
  obtain ⟨k,acc,hk,rfl,hb,hacc,hd⟩:=hrel;have HB:=hide hb;clear hb
  by_cases hlt:k < s.size
  ·rw [drop_cons s k hlt,winL_cons,<- List.append_assoc] at hd;have HR:=hide hd;have hcase:=winR_case s[k];have hl3:=winR_length s[k];have hrg:=winR_range s[k];have hbl:=byte_lt s[k];generalize hc:s[k] = c at hd hcase hl3 hrg hbl;rw [hc] at HR;clear hd;rcases hcase with ⟨c1,e⟩ | ⟨c1,c2,e⟩ | ⟨c1,e⟩
   ·rw [e] at HR hl3;clear e;go_wp2_with fail;refine (appendRune_any w.heap.size u3 acc w wr HB.out c.toNat (by omega) (by omega) (by omega)).mono ?_;rintro e w1 ⟨v1,rfl,hb1,_⟩;have HB1:=hide hb1;clear hb1;go_wp2_with fail;go_roundw
    case rel=>exact ⟨k + 1,acc ++ _,by omega,by go_num,HB1.out,by rw [List.length_append];omega,HR.out⟩
    case measure=>simp [intOf];omega
   ·have hcell:=(HT.out.below HB.out.below h0) (c.toNat - 128) (by omega)
    rw [<- e] at hcell;have q1:((c.toNat:Int) - 128).toNat = c.toNat - 128:=by omega
    generalize winR c = rr at HR hl3 hrg hcell e;clear e;go_wp2_with fail;refine (appendRune_any w.heap.size u3 acc w wr HB.out rr (by omega) (by omega) (by omega)).mono ?_;rintro e w1 ⟨v1,rfl,hb1,_⟩;have HB1:=hide hb1;clear hb1;go_wp2_with fail;go_roundw
    case rel=>exact ⟨k + 1,acc ++ _,by omega,by go_num,HB1.out,by rw [List.length_append];omega,HR.out⟩
    case measure=>simp [intOf];omega
   ·rw [e] at HR hl3;clear e;go_wp2_with fail;refine (appendRune_any w.heap.size u3 acc w wr HB.out c.toNat (by omega) (by omega) (by omega)).mono ?_;rintro e w1 ⟨v1,rfl,hb1,_⟩;have HB1:=hide hb1;clear hb1;go_wp2_with fail;go_roundw
    case rel=>exact ⟨k + 1,acc ++ _,by omega,by go_num,HB1.out,by rw [List.length_append];omega,HR.out⟩
    case measure=>simp [intOf];omega
  ·have hcv:=HB.out.convert;go_wp2;go_ret;refine ⟨?_,HB.out.below⟩;rw [drop_nil s k (by omega)] at hd;rw [show winL [] = [] from rfl,List.append_nil] at hd;exact ret_str (by rw [hd])
theorem or_bytes (a b:Nat) (ha:a < 256) (hb:b < 256):bits .or .i32 ((a:Int) * 256) (b:Int) = ((256 * a + b:Nat):Int):=by
 have h1:(BitVec.ofInt 32 ((a:Int) * 256)).toNat = a * 256:=by
  rw [show (a:Int) * 256 = ((a * 256:Nat):Int) from by omega,BitVec.ofInt_natCast,BitVec.toNat_ofNat];exact Nat.mod_eq_of_lt (by omega)
 have h2:(BitVec.ofInt 32 (b:Int)).toNat = b:=by
  rw [BitVec.ofInt_natCast,BitVec.toNat_ofNat];exact Nat.mod_eq_of_lt (by omega)
 show IntKind.i32.wrap ((BitVec.ofInt 32 ((a:Int) * 256) ||| BitVec.ofInt 32 (b:Int)).toNat:Int) = _
 rw [BitVec.toNat_or,h1,h2]
 have e:a * 256 ||| b = 256 * a + b:=by
  have:=Nat.two_pow_add_eq_or_of_lt (i:=8) (b:=b) (by omega) a;rw [Nat.mul_comm a 256];exact this.symm
 rw [e];exact IntWalk.i32_in _ (by omega)
def hiAt (big:Bool):Int:=if big then 0 else 1
theorem number_any (s:ByteArray) (big:Bool) (w:World) (hs:s.size <= maxLen) (h2:1 < s.size) :
  Calls Tryz.prog 265 #[.string s,.int .i64 (hiAt big)] w fun e w'=>e = .returned (.int .i32 (num big s[0] s[1])) /\ Below w.heap.size w w':=by
 unfold maxLen at hs;have ha:=byte_lt s[0];have hb:=byte_lt s[1];have i0:(0:Int) < s.size:=by omega
 have i1:(1:Int) < s.size:=by omega
 have n0:0 < s.size:=by omega
 cases big
 ·have ho:=or_bytes s[1].toNat s[0].toNat hb ha;show Calls _ _ #[.string s,.int .i64 1] _ _
  go_enter Tryz.func265,Tryz.ntmps265;go_wp2_with fail;go_region
  all_goals (try go_wp2)
  all_goals
   go_ret;exact ⟨ret_int (by unfold num;simp),(Below.refl _ _).drew⟩
 ·have ho:=or_bytes s[0].toNat s[1].toNat ha hb;show Calls _ _ #[.string s,.int .i64 0] _ _
  go_enter Tryz.func265,Tryz.ntmps265;go_wp2_with fail;go_region
  all_goals (try go_wp2)
  all_goals
   go_ret;exact ⟨ret_int (by unfold num;simp),(Below.refl _ _).drew⟩
theorem number_list (s:ByteArray) (big:Bool) (a b:UInt8) (r:List UInt8) (w:World) (hs:s.size <= maxLen) (h:s.data.toList = a :: b :: r) :
  Calls Tryz.prog 265 #[.string s,.int .i64 (hiAt big)] w fun e w'=>e = .returned (.int .i32 (num big a b)) /\ Below w.heap.size w w':=by
 have hl:=toList_length s;rw [h] at hl;simp only [List.length_cons] at hl;have h1:1 < s.size:=by omega
 have e:=drop_cons s 0 (by omega);rw [List.drop_zero,drop_cons s 1 h1,h] at e;injection e with e1 e;injection e with e2 e;have:=number_any s big w hs h1;rw [<- e1,<- e2] at this;exact this
def fsV (big:Bool) (l:List UInt8):Value:=.tuple #[.int .i32 (fsS big l).1,.int .i64 (fsS big l).2]
theorem fsV_of {big:Bool} {l:List UInt8} {z:Int} {n:Nat} (h:fsS big l = (z,n)):fsV big l = .tuple #[.int .i32 z,.int .i64 n]:=by unfold fsV;rw [h]
theorem firstSign_any (s:ByteArray) (big:Bool) (w:World) (hs:s.size <= maxLen) (h2:1 < s.size) :
  Calls Tryz.prog 249 #[.string s,.int .i64 (hiAt big)] w fun e w'=>e = .returned (fsV big s.data.toList) /\ Below w.heap.size w w':=by
 have hs':=hs;unfold maxLen at hs
 obtain ⟨a,b,r,hl⟩:∃ a b r,s.data.toList = a :: b :: r:=by
  have e:=drop_cons s 0 (by omega);rw [List.drop_zero,drop_cons s 1 h2] at e;exact ⟨_,_,_,e⟩
 have hlen:=toList_length s;rw [hl] at hlen;simp only [List.length_cons] at hlen;have HN:=hide (fun (w:World)=>number_list s big a b r w hs' hl);have hlt:=num_lt big a b;obtain ⟨x,hx⟩:∃ x,x = num big a b:=⟨_,rfl⟩
 rw [hl];have hi:∃ z,z = hiAt big:=⟨_,rfl⟩
 obtain ⟨z,hz⟩:=hi;rw [<- hz];have HZ:=hide hz;rw [<- hz,<- hx] at HN;rw [<- hx] at hlt;have HX:=hide hx;clear hx hz
 by_cases c1:x < 55296
 ·have HV:=hide (fsV_of (big:=big) (l:=a :: b :: r) (z:=x) (n:=2) (by rw [fsS,<- HX.out,if_pos (.inl c1)]));clear hlen;go_enter Tryz.func249,Tryz.ntmps249;go_wp2_with fail;refine (HN.out _).mono ?_;rintro e w1 ⟨rfl,hb1⟩;go_wp2_with fail;go_ret2;exact ⟨by rw [HV.out];rfl,hb1⟩
 by_cases c2:57344 <= x
 ·have HV:=hide (fsV_of (big:=big) (l:=a :: b :: r) (z:=x) (n:=2) (by rw [fsS,<- HX.out,if_pos (.inr c2)]));clear hlen;go_enter Tryz.func249,Tryz.ntmps249;go_wp2_with fail;refine (HN.out _).mono ?_;rintro e w1 ⟨rfl,hb1⟩;go_wp2_with fail;go_ret2;exact ⟨by rw [HV.out];rfl,hb1⟩
 have c12:¬ (x < 55296 \/ 57344 <= x):=by omega
 have t1:decide ((x:Int) < 55296) = false:=decide_eq_false (by omega);have t2:decide ((57344:Int) <= x) = false:=decide_eq_false (by omega);have C12:=hide c12;have K1:Hid (55296 <= x):=hide (by omega);clear c12 c1 c2
 by_cases c3:x < 56320
 ·have t3:decide ((x:Int) < 56320) = true:=decide_eq_true (by omega);have C3:=hide c3;clear c3
  by_cases c4:3 < s.size
  ·have t4:decide ((3:Int) < s.size) = true:=decide_eq_true (by omega);have s2:(2:Int) <= s.size:=by omega
   obtain ⟨c,d,r',hr⟩:∃ c d r',r = c :: d :: r':=by
    match r,hlen with
    | c :: d :: r',_=>exact ⟨c,d,r',rfl⟩
    | [c],h=>simp at h;omega
    | [],h=>simp at h;omega
   subst hr;have hx2:(s.extract 2 s.size).data.toList = c :: d :: r':=by rw [extract_end,hl];rfl
   have HN2:=hide (fun (w:World)=>number_list (s.extract 2 s.size) big c d r' w (by have:=extract_size_le s 2 s.size;unfold maxLen;omega) hx2);have hlt2:=num_lt big c d;obtain ⟨y,hy⟩:∃ y,y = num big c d:=⟨_,rfl⟩
   rw [<- HZ.out,<- hy] at HN2;rw [<- hy] at hlt2;have HY:=hide hy;clear hy hx2 hl c4
   by_cases c5:56320 <= y /\ y < 57344
   ·have HV:=hide (fsV_of (big:=big) (l:=a :: b :: c :: d :: r') (z:=pairV x y) (n:=4) (by rw [fsS,<- HX.out,if_neg C12.out,if_pos C3.out,fsT,<- HY.out,if_pos c5]));have t5:decide ((56320:Int) <= y) = true:=decide_eq_true (by omega);have t6:decide ((y:Int) < 57344) = true:=decide_eq_true (by omega);have k1:=K1.out;have k3:=C3.out;obtain ⟨k5,k6⟩:=c5;clear hlen;go_enter Tryz.func249,Tryz.ntmps249;go_wp2_with fail;refine (HN.out _).mono ?_;rintro e w1 ⟨rfl,hb1⟩;go_wp2_with fail;refine (HN2.out _).mono ?_;rintro e w2 ⟨rfl,hb2⟩;go_upto_region 7 with (fail)
    clear t1 t2 t3 t4 t5 t6 hlt hlt2 h2 s2 hs';go_wp2_with fail;go_ret2;refine ⟨?_,hb1.trans (hb2.mono hb1.size)⟩;rw [HV.out];show Ending.returned (.tuple #[.int .i32 _,.int .i64 _]) = _
    congr 5
    unfold pairV;omega
   ·have HV:=hide (fsV_of (big:=big) (l:=a :: b :: c :: d :: r') (z:=65533) (n:=2) (by rw [fsS,<- HX.out,if_neg C12.out,if_pos C3.out,fsT,<- HY.out,if_neg c5]));have c6:y < 56320 \/ (56320 <= y /\ 57344 <= y):=by omega
    have c7:decide ((56320:Int) <= y) = false \/ (decide ((56320:Int) <= y) = true /\ decide ((y:Int) < 57344) = false):=by
     rcases c6 with c | ⟨c,c'⟩
     ·exact .inl (decide_eq_false (by omega))
     ·exact .inr ⟨decide_eq_true (by omega),decide_eq_false (by omega)⟩
    clear c5 c6;rcases c7 with t5 | ⟨t5,t6⟩
    all_goals
     clear hlen;go_enter Tryz.func249,Tryz.ntmps249;go_wp2_with fail;refine (HN.out _).mono ?_;rintro e w1 ⟨rfl,hb1⟩;go_wp2_with fail;refine (HN2.out _).mono ?_;rintro e w2 ⟨rfl,hb2⟩;go_wp2_with fail;go_ret2;exact ⟨by rw [HV.out];rfl,hb1.trans (hb2.mono hb1.size)⟩
  ·have HV:=hide (fsV_of (big:=big) (l:=a :: b :: r) (z:=65533) (n:=2) (by
    rw [fsS,<- HX.out,if_neg C12.out,if_pos C3.out]
    match r,hlen with
    | [],_=>rfl
    | [_],_=>rfl
    | _ :: _ :: r',h=>simp at h;omega))
   have t4:decide ((3:Int) < s.size) = false:=decide_eq_false (by omega);clear c4;clear hlen;go_enter Tryz.func249,Tryz.ntmps249;go_wp2_with fail;refine (HN.out _).mono ?_;rintro e w1 ⟨rfl,hb1⟩;go_wp2_with fail;go_ret2;exact ⟨by rw [HV.out];rfl,hb1⟩
 ·have HV:=hide (fsV_of (big:=big) (l:=a :: b :: r) (z:=65533) (n:=2) (by rw [fsS,<- HX.out,if_neg C12.out,if_neg c3]));have t3:decide ((x:Int) < 56320) = false:=decide_eq_false (by omega);clear c3;clear hlen;go_enter Tryz.func249,Tryz.ntmps249;go_wp2_with fail;refine (HN.out _).mono ?_;rintro e w1 ⟨rfl,hb1⟩;go_wp2_with fail;go_ret2;exact ⟨by rw [HV.out];rfl,hb1⟩
def szOf4:Value -> Nat
  | .string t=>t.size
  | _=>0
theorem fromPairs_any (s:ByteArray) (big:Bool) (w:World) (hs:s.size <= 1048576) :
  Calls Tryz.prog 228 #[.string s,.int .i64 (hiAt big)] w fun e w'=>e = .returned (.string (str (pairsL big s.data.toList))) /\ Below w.heap.size w w':=by
 have HFS:=hide (fun (t:ByteArray) (w:World) (ht:t.size <= maxLen) (h2:1 < t.size)=>firstSign_any t big w ht h2);obtain ⟨z,hz⟩:∃ z,z = hiAt big:=⟨_,rfl⟩
 rw [<- hz] at HFS ⊢;clear hz;go_enter Tryz.func228,Tryz.ntmps228;go_wp2_with (refine wpList_buf_make rfl _ _ rfl w.heap.size w (Below.refl _ _) (Nat.le_refl _) s.size s.size rfl rfl rfl (by omega) ?_;intro v0 w0 hb0);go_loopw [0,5] (fun x v wr=>∃ (t:ByteArray) (acc:List UInt8),x = .string t /\ Buf w.heap.size v acc w wr /\ acc.length + 3 * t.size <= 3 * s.size /\ acc ++ pairsL big t.data.toList = pairsL big s.data.toList) (fun x _ _=>szOf4 x)
 case atStart=>exact ⟨s,[],rfl,hb0,by simp,by simp⟩
 case round =>
  obtain ⟨t,acc,rfl,hb,hacc,hd⟩:=hrel;have HB:=hide hb;clear hb
  by_cases hlt:1 < t.size
  ·obtain ⟨p1,p2,p3,p4,p5⟩:=pairs_step big t.data.toList (by rw [toList_length];omega);have p6:=runeL_length (fsS big t.data.toList).1;rw [p1,<- List.append_assoc] at hd;rw [toList_length] at p3;have hF:fsV big t.data.toList = .tuple #[.int .i32 (fsS big t.data.toList).1,.int .i64 (fsS big t.data.toList).2]:=rfl;generalize fsS big t.data.toList = st at hd hF p2 p3 p4 p5 p6;obtain ⟨r,n⟩:=st;simp only at hd hF p2 p3 p4 p5 p6;have p7:(runeL r).length <= 3 * n:=by omega
   have p8:2 <= n:=by omega
   have HR:=hide hd;have HF:=hide hF;clear hd hF p1 p2 p6;go_wp2_with fail;refine (HFS.out t _ (by unfold maxLen;omega) hlt).mono ?_;rintro e w1 ⟨rfl,hb1⟩;rw [HF.out];have HB1:=hide (HB.out.kept hb1);go_wp2_with fail;refine (appendRune_any w.heap.size u5 acc w _ HB1.out r (by omega) (by omega) (by omega)).mono ?_;rintro e w2 ⟨v2,rfl,hb2,_⟩;have HB2:=hide hb2;clear hb2;go_wp2_with fail;go_roundw
   case rel=>exact ⟨t.extract n t.size,acc ++ _,rfl,HB2.out,by rw [ByteArray.size_extract,List.length_append];omega,by rw [extract_end];exact HR.out⟩
   case measure=>simp [szOf4];omega
  ·have hl:=toList_length t;have hp:=pairs_short big t.data.toList (by omega);rw [hl] at hp
   by_cases h1:0 < t.size
   ·rw [hp,if_pos (by omega)] at hd;have HR:=hide hd;clear hd hp hl;go_wp2_with fail;refine (appendRune_any w.heap.size u5 acc w _ HB.out 65533 (by omega) (by omega) (by omega)).mono ?_;rintro e w2 ⟨v2,rfl,hb2,_⟩;rw [runeL_bad'] at hb2;have HB2:=hide hb2;have hcv:=hb2.convert;clear hb2;go_wp2_with fail;go_ret;exact ⟨ret_str (by rw [HR.out]),HB2.out.below⟩
   ·rw [hp,if_neg (by omega),List.append_nil] at hd;have HR:=hide hd;have hcv:=HB.out.convert;clear hd hp hl;go_wp2_with fail;go_ret;exact ⟨ret_str (by rw [HR.out]),HB.out.below⟩
def decV (k:Nat) (l:List UInt8):Value:=.tuple #[.string (str (decodeL k l)),.bool (decide (0 < k))]
theorem charsDecode_any (label s:ByteArray) (w:World) (hl:label.size <= 70368744177664) (hs:s.size <= 1048576) (hT:Tab w) :
  Calls Tryz.prog 195 #[.string label,.string s] w fun e w'=>e = .returned (decV (kindL label.data.toList) s.data.toList) /\ Below w.heap.size w w':=by
 have HT:=hide hT;have H0:=hide hT.lt;clear hT;have HK:=hide (fun (w:World)=>known_any label w hl);have hk5:=kind_lt label.data.toList;generalize kindL label.data.toList = k at HK hk5;have hk:k = 0 \/ k = 1 \/ k = 2 \/ k = 3 \/ k = 4:=by omega
 clear hk5;have KV0:Hid (knownV 0 = .tuple #[.string ⟨#[]⟩,.bool false]):=hide rfl;have KV1:Hid (knownV 1 = .tuple #[.string ⟨#[117,116,102,45,56]⟩,.bool true]):=hide rfl;have KV2:Hid (knownV 2 = .tuple #[.string ⟨#[119,105,110,100,111,119,115,45,49,50,53,50]⟩,.bool true]):=hide rfl;have KV3:Hid (knownV 3 = .tuple #[.string ⟨#[117,116,102,45,49,54,108,101]⟩,.bool true]):=hide rfl;have KV4:Hid (knownV 4 = .tuple #[.string ⟨#[117,116,102,45,49,54,98,101]⟩,.bool true]):=hide rfl;have P3:=hide (fun (w:World)=>fromPairs_any s false w hs);have P4:=hide (fun (w:World)=>fromPairs_any s true w hs);rw [show hiAt false = 1 from rfl] at P3;rw [show hiAt true = 0 from rfl] at P4;rcases hk with rfl | rfl | rfl | rfl | rfl
 ·go_enter Tryz.func195,Tryz.ntmps195;go_wp2_with fail;refine (HK.out _).mono ?_;rintro e w1 ⟨rfl,hb1⟩;rw [KV0.out];go_wp2_with fail;refine (valid_any s _ hs).mono ?_;rintro e w2 ⟨rfl,hb2⟩;go_wp2_with fail;go_ret2;exact ⟨rfl,hb1.trans (hb2.mono hb1.size)⟩
 ·go_enter Tryz.func195,Tryz.ntmps195;go_wp2_with fail;refine (HK.out _).mono ?_;rintro e w1 ⟨rfl,hb1⟩;rw [KV1.out];go_wp2_with fail;refine (valid_any s _ hs).mono ?_;rintro e w2 ⟨rfl,hb2⟩;go_wp2_with fail;go_ret2;exact ⟨rfl,hb1.trans (hb2.mono hb1.size)⟩
 ·go_enter Tryz.func195,Tryz.ntmps195;go_wp2_with fail;refine (HK.out _).mono ?_;rintro e w1 ⟨rfl,hb1⟩;rw [KV2.out];go_wp2_with fail;refine (fromWindows_any s _ hs (HT.out.below hb1 H0.out)).mono ?_;rintro e w2 ⟨rfl,hb2⟩;go_wp2_with fail;go_ret2;exact ⟨rfl,hb1.trans (hb2.mono hb1.size)⟩
 ·go_enter Tryz.func195,Tryz.ntmps195;go_wp2_with fail;refine (HK.out _).mono ?_;rintro e w1 ⟨rfl,hb1⟩;rw [KV3.out];go_wp2_with fail;refine (P3.out _).mono ?_;rintro e w2 ⟨rfl,hb2⟩;go_wp2_with fail;go_ret2;exact ⟨rfl,hb1.trans (hb2.mono hb1.size)⟩
 ·go_enter Tryz.func195,Tryz.ntmps195;go_wp2_with fail;refine (HK.out _).mono ?_;rintro e w1 ⟨rfl,hb1⟩;rw [KV4.out];go_wp2_with fail;refine (P4.out _).mono ?_;rintro e w2 ⟨rfl,hb2⟩;go_wp2_with fail;go_ret2;exact ⟨rfl,hb1.trans (hb2.mono hb1.size)⟩
def signN (n:Nat):Int:=if n = 0 \/ 1114111 < n \/ (55296 <= n /\ n <= 57343) then 65533 else if 128 <= n /\ n <= 159 then winR (UInt8.ofNat n) else n
theorem win_dec (c:UInt8):(decL (runeL (winR c))).1 = (winR c).toNat /\ 0 <= winR c:=by
 have:=u8_all (p:=fun c=>(decL (runeL (winR c))).1 = (winR c).toNat /\ 0 <= winR c) (by decide +kernel) c;exact this
theorem dec_win (c:UInt8):Lib.decodeGo (str (runeL (winR c))) = ((winR c).toNat,(decL (runeL (winR c))).2):=by
 have hl:=(runeL_length (winR c)).1;have hz:(str (runeL (winR c))).size ≠ 0:=by rw [str_size];omega
 unfold Lib.decodeGo;rw [if_neg hz,decode_decL _ _ (by omega),List.drop_zero,str_toList];exact Prod.ext (win_dec c).1 rfl
theorem signN_window {n:Nat} (h1:128 <= n) (h2:n <= 159):signN n = winR (UInt8.ofNat n):=by
 unfold signN;rw [if_neg (by omega),if_pos ⟨h1,h2⟩]
theorem signN_bad {n:Nat} (h:n = 0 \/ 1114111 < n \/ (55296 <= n /\ n <= 57343)):signN n = 65533:=by unfold signN;rw [if_pos h]
theorem signN_own {n:Nat} (h:¬ (n = 0 \/ 1114111 < n \/ (55296 <= n /\ n <= 57343))) (h':¬ (128 <= n /\ n <= 159)):signN n = n:=by unfold signN;rw [if_neg h,if_neg h']
theorem tabs_lt {w:World} (h:Lib.Utf8Tabs 4 5 w):4 < w.heap.size /\ 5 < w.heap.size :=
 ⟨World.block_lt_of_cell? _ _ (h.1 0 (by decide)),World.block_lt_of_cell? _ _ (h.2 0 (by decide)).1⟩
theorem tabs_kept {w w':World} (h:Lib.Utf8Tabs 4 5 w) (hb:Below w.heap.size w w'):Lib.Utf8Tabs 4 5 w':=by
 obtain ⟨l1,l2⟩:=tabs_lt h;exact ⟨fun c hc=>(hb.cell (p:=⟨4,c,none⟩) l1).trans (h.1 c hc),fun i hi=>⟨(hb.cell (p:=⟨5,2 * i,none⟩) l2).trans (h.2 i hi).1,(hb.cell (p:=⟨5,2 * i + 1,none⟩) l2).trans (h.2 i hi).2⟩⟩
theorem kind_win:kindL [119,105,110,100,111,119,115,45,49,50,53,50] = 2:=by decide +kernel
theorem signOf_any (n:Nat) (w:World) (hn:n < 2147483648) (hT:Tab w) (hU:Lib.Utf8Tabs 4 5 w) :
  Calls Tryz.prog 171 #[.int .i32 n] w fun e w'=>e = .returned (.int .i32 (signN n)) /\ Below w.heap.size w w':=by
 by_cases c0:n = 0
 ·have HR:Hid (signN n = 65533):=hide (signN_bad (.inl c0));subst c0;go_enter Tryz.func171,Tryz.ntmps171;go_wp2_with fail;go_ret;exact ⟨by rw [HR.out];rfl,Below.refl _ _⟩
 have t0:((n:Int) == 0) = false:=beq_eq_false_iff_ne.2 (by omega)
 by_cases c1:1114111 < n
 ·have HR:Hid (signN n = 65533):=hide (signN_bad (.inr (.inl c1)));have t1:decide ((1114111:Int) < n) = true:=decide_eq_true (by omega);clear c0;go_enter Tryz.func171,Tryz.ntmps171;go_wp2_with fail;go_ret;exact ⟨by rw [HR.out];rfl,Below.refl _ _⟩
 have t1:decide ((1114111:Int) < n) = false:=decide_eq_false (by omega)
 by_cases c2:55296 <= n
 ·have t2:decide ((55296:Int) <= n) = true:=decide_eq_true (by omega)
  by_cases c3:n <= 57343
  ·have HR:Hid (signN n = 65533):=hide (signN_bad (.inr (.inr ⟨c2,c3⟩)));have t3:decide ((n:Int) <= 57343) = true:=decide_eq_true (by omega);clear c0 c1 c2 c3;go_enter Tryz.func171,Tryz.ntmps171;go_wp2_with fail;go_ret;exact ⟨by rw [HR.out];rfl,Below.refl _ _⟩
  ·have HR:Hid (signN n = n):=hide (signN_own (by omega) (by omega));have t3:decide ((n:Int) <= 57343) = false:=decide_eq_false (by omega);have t4:decide ((128:Int) <= n) = true:=decide_eq_true (by omega);have t5:decide ((n:Int) <= 159) = false:=decide_eq_false (by omega);clear c0 c1 c2 c3;go_enter Tryz.func171,Tryz.ntmps171;go_wp2_with fail;go_ret;exact ⟨by rw [HR.out];rfl,Below.refl _ _⟩
 have t2:decide ((55296:Int) <= n) = false:=decide_eq_false (by omega)
 by_cases c4:128 <= n
 ·have t4:decide ((128:Int) <= n) = true:=decide_eq_true (by omega)
  by_cases c5:n <= 159
  ·have t5:decide ((n:Int) <= 159) = true:=decide_eq_true (by omega);obtain ⟨c,hc⟩:∃ c,c = UInt8.ofNat n:=⟨_,rfl⟩
   have hcn:c.toNat = n:=by rw [hc,UInt8.toNat_ofNat',Nat.mod_eq_of_lt (by omega)]
   have HR:Hid (signN n = winR c):=hide (by rw [hc];exact signN_window c4 c5);have x1:IntKind.u8.wrap (n:Int) = (n:Int):=IntWalk.u8_in _ (by omega);have hbs:strOfNums [(n:Int)] = ⟨#[c]⟩:=by rw [<- hcn];apply ext_list;rw [nums_list];simp
   have hcv:=conv1 w (n:Int);rw [hbs] at hcv;have HD:=hide (fun w1 (h1:Tab w1)=>charsDecode_any ⟨#[119,105,110,100,111,119,115,45,49,50,53,50]⟩ ⟨#[c]⟩ w1 (by decide) (by show (⟨#[c]⟩:ByteArray).size <= _;rw [show (⟨#[c]⟩:ByteArray).size = 1 from rfl];decide) h1)
   have eD:decV (kindL (⟨#[119,105,110,100,111,119,115,45,49,50,53,50]⟩:ByteArray).data.toList) (⟨#[c]⟩:ByteArray).data.toList = .tuple #[.string (str (runeL (winR c))),.bool true]:=by
    rw [show (⟨#[119,105,110,100,111,119,115,45,49,50,53,50]⟩:ByteArray).data.toList = [119,105,110,100,111,119,115,45,49,50,53,50] from rfl,kind_win];show Value.tuple #[.string (str (winL [c])),.bool true] = _
    rw [winL_cons];show Value.tuple #[.string (str (runeL (winR c) ++ [])),.bool true] = _
    rw [List.append_nil]
   rw [eD] at HD;have HU:=hide (fun w1 h1=>Tryz.utf8_DecodeRuneInString (str (runeL (winR c))) w1 h1);rw [dec_win] at HU;have hp:((winR c).toNat:Int) = winR c:=Int.toNat_of_nonneg (win_dec c).2;rw [show (((winR c).toNat,(decL (runeL (winR c))).2):Nat × Nat).1 = (winR c).toNat from rfl,hp] at HU;have KB:Hid (Below w.heap.size w (w.alloc (.cells #[.int .u8 (n:Int)] 5))):=hide ((Below.refl _ _).alloc (Nat.le_refl _) _);have HT:=hide (hT.below KB.out hT.lt);have HTU:=hide hU;obtain ⟨S,hS⟩:∃ S,str (runeL (winR c)) = S:=⟨_,rfl⟩
   obtain ⟨R,hR⟩:∃ R,winR c = R:=⟨_,rfl⟩
   rw [hS] at HD HU;rw [hR] at HU HR;clear c0 c1 c2 c4 c5 hc hcn hbs eD hp hS hR hT hU;go_enter Tryz.func171,Tryz.ntmps171
   go_wp2_with (first
    |(go_at_call 195;refine (HD.out _ HT.out).mono ?_;rintro e w1 ⟨rfl,hb1⟩;have HB1:=hide (KB.out.trans (hb1.mono KB.out.size));clear hb1)
    |(go_at_call 196;refine (HU.out _ (tabs_kept HTU.out HB1.out)).mono ?_;rintro e w2 ⟨rfl,hb2⟩;have HB2:=hide (HB1.out.trans (hb2.mono HB1.out.size));clear hb2))
   go_ret;exact ⟨by rw [HR.out];rfl,HB2.out⟩
  ·have HR:Hid (signN n = n):=hide (signN_own (by omega) (by omega));have t5:decide ((n:Int) <= 159) = false:=decide_eq_false (by omega);clear c0 c1 c2 c4 c5;go_enter Tryz.func171,Tryz.ntmps171;go_wp2_with fail;go_ret;exact ⟨by rw [HR.out];rfl,Below.refl _ _⟩
 ·have HR:Hid (signN n = n):=hide (signN_own (by omega) (by omega));have t4:decide ((128:Int) <= n) = false:=decide_eq_false (by omega);clear c0 c1 c2 c4;go_enter Tryz.func171,Tryz.ntmps171;go_wp2_with fail;go_ret;exact ⟨by rw [HR.out];rfl,Below.refl _ _⟩
def numAt (b most:Nat) (l:List UInt8):Option Int :=
  match parseU b l with
  | none=>none
  | some n=>if most < l.length then none else some (signN n)
def entV:Option Int -> Value
  | some x=>.tuple #[.int .i32 x,.bool true]
  | none=>.tuple #[.int .i32 0,.bool false]
theorem parseB_lt {b:Nat} (hb:0 < b) (l:List UInt8):∀ m n,parseB b m l = some n -> n + 1 <= (m + 1) * b ^ l.length:=by
 induction l with
 | nil=>intro m n h;injection h with h;subst h;simp
 | cons c r ih =>
  intro m n h;rw [parseB] at h;unfold digB at h
  by_cases hd:dgV c < b
  ·rw [if_pos hd] at h;have h1:=ih _ _ h;have h2:m * b + dgV c + 1 <= (m + 1) * b:=by rw [Nat.succ_mul];omega
   have h3:=Nat.mul_le_mul_right (b ^ r.length) h2;rw [List.length_cons,Nat.pow_succ,Nat.mul_comm (b ^ r.length) b,<- Nat.mul_assoc];exact Nat.le_trans h1 h3
  ·rw [if_neg hd] at h;cases h
theorem parse_lt {b:Nat} {l:List UInt8} (hb:0 < b):∀ n,parseU b l = some n -> n < b ^ l.length:=by
 intro n h;unfold parseU at h;split at h
 ·cases h
 ·have:=parseB_lt hb l 0 n h;rw [Nat.zero_add,Nat.one_mul] at this;exact this
theorem pref_size {D:ByteArray} {c:UInt8} (h:Lib.hasPrefix D.data.toList [c] = true):1 <= D.size:=by
 rw [<- toList_length];cases hl:D.data.toList with
 | nil=>rw [hl] at h;cases h
 | cons a r=>exact Nat.succ_pos _
theorem byNumber_x (D:ByteArray) (ev:Value) (w:World) (hs:D.size <= 8) (p1:Lib.hasPrefix D.data.toList [120] = true) (hT:Tab w) (hU:Lib.Utf8Tabs 4 5 w)
  (hv:w.cell? ⟨1,0,none⟩ = some ev) (hev:ev = .nilIface \/ ∃ te pe,ev = .iface te pe) :
  Calls Tryz.prog 146 #[.string D] w fun e w'=>e = .returned (entV (numAt 16 6 (D.extract 1 D.size).data.toList)) /\ Below w.heap.size w w':=by
 have z1:1 <= D.size:=pref_size p1;have k1:(1:Int) <= D.size:=by omega
 have P1:Hid (Lib.hasPrefix D.data.toList [120] = true):=hide p1;have HT:=hide hT;have HTU:=hide hU;have HC:=hide (fun w1 (hb:Below w.heap.size w w1)=>parse16_any (D.extract 1 D.size) ev w1 (Nat.le_trans (by rw [ByteArray.size_extract];omega) hs) ((hb.cell (p:=⟨1,0,none⟩) (World.block_lt_of_cell? _ _ hv)).trans hv) hev);have tok1:True:=trivial;have tok2:True:=trivial;have hrl:(D.extract 1 D.size).size = (D.size - 1):=(by rw [ByteArray.size_extract];omega)
 have HB0:=hide (parse_lt (b:=16) (l:=(D.extract 1 D.size).data.toList) (by decide));cases hu:parseU 16 (D.extract 1 D.size).data.toList with
 | none =>
  have HU:=hide hu;have HR:Hid (numAt 16 6 (D.extract 1 D.size).data.toList = none):=hide (by unfold numAt;rw [hu]);clear hu hT hU hv hev p1;go_enter Tryz.func146,Tryz.ntmps146
  go_wp2_with (first
   |(go_at_call 65;have _t:=tok1;refine (Tryz.strings_HasPrefix D ⟨#[120]⟩ _).mono ?_;rintro e w1 ⟨rfl,hw1⟩;obtain rfl:=hw1.symm;rw [show (⟨#[120]⟩:ByteArray).data.toList = [120] from rfl,P1.out];clear tok1)
   |(go_at_call 170;refine (HC.out _ (Below.refl _ _)).mono ?_;rintro e w1 ⟨he,hb1⟩;rw [HU.out] at he;obtain ⟨N,rfl⟩:=he;have HB1:=hide hb1;clear hb1)
   |(go_at_call 171;refine (signOf_any _ _ HN31.out (HT.out.below HB1.out HT.out.lt) (tabs_kept HTU.out HB1.out)).mono ?_;rintro e w2 ⟨rfl,hb2⟩;have HB2:=hide (HB1.out.trans (hb2.mono HB1.out.size));clear hb2))
  go_ret2;exact ⟨by rw [HR.out];rfl,HB1.out⟩
 | some n =>
  have HU:=hide hu;have hlt:=HB0.out n hu;rw [toList_length,hrl] at hlt
  by_cases hm:6 < (D.size - 1)
  ·have HR:Hid (numAt 16 6 (D.extract 1 D.size).data.toList = none):=hide (by unfold numAt;rw [hu];simp only [];rw [toList_length,hrl,if_pos hm]);have t1:decide ((6:Int) < ((D.extract 1 D.size).size:Int)) = true:=decide_eq_true (by rw [hrl];omega);have t2:decide (6 < (D.extract 1 D.size).size) = true:=decide_eq_true (by rw [hrl];exact hm);have t3:decide ((6:Int) < (((D.size - 1):Nat):Int)) = true:=decide_eq_true (by omega);have t4:decide (6 < (D.size - 1)) = true:=decide_eq_true hm;clear hu hT hU hv hev p1 hlt hm hrl;go_enter Tryz.func146,Tryz.ntmps146;go_wp2_with (first
   |(go_at_call 65;have _t:=tok1;refine (Tryz.strings_HasPrefix D ⟨#[120]⟩ _).mono ?_;rintro e w1 ⟨rfl,hw1⟩;obtain rfl:=hw1.symm;rw [show (⟨#[120]⟩:ByteArray).data.toList = [120] from rfl,P1.out];clear tok1)
   |(go_at_call 170;refine (HC.out _ (Below.refl _ _)).mono ?_;rintro e w1 ⟨he,hb1⟩;rw [HU.out] at he;obtain rfl:=he;have HB1:=hide hb1;clear hb1)
   |(go_at_call 171;refine (signOf_any _ _ HN31.out (HT.out.below HB1.out HT.out.lt) (tabs_kept HTU.out HB1.out)).mono ?_;rintro e w2 ⟨rfl,hb2⟩;have HB2:=hide (HB1.out.trans (hb2.mono HB1.out.size));clear hb2))
   go_ret2;exact ⟨by rw [HR.out];rfl,HB1.out⟩
  ·have HR:Hid (numAt 16 6 (D.extract 1 D.size).data.toList = some (signN n)):=hide (by unfold numAt;rw [hu];simp only [];rw [toList_length,hrl,if_neg hm]);have t1:decide ((6:Int) < ((D.extract 1 D.size).size:Int)) = false:=decide_eq_false (by rw [hrl];omega);have t2:decide (6 < (D.extract 1 D.size).size) = false:=decide_eq_false (by rw [hrl];exact hm);have t3:decide ((6:Int) < (((D.size - 1):Nat):Int)) = false:=decide_eq_false (by omega);have t4:decide (6 < (D.size - 1)) = false:=decide_eq_false hm;have hn31:n < 2147483648:=Nat.lt_of_lt_of_le hlt (Nat.le_trans (Nat.pow_le_pow_right (by decide) (by omega:(D.size - 1) <= 6)) (by decide));have HN31:=hide hn31;have x1:IntKind.i32.wrap (n:Int) = (n:Int):=IntWalk.i32_in _ (by omega);clear hu hT hU hv hev p1 hlt hm hrl hn31;go_enter Tryz.func146,Tryz.ntmps146;go_wp2_with (first
   |(go_at_call 65;have _t:=tok1;refine (Tryz.strings_HasPrefix D ⟨#[120]⟩ _).mono ?_;rintro e w1 ⟨rfl,hw1⟩;obtain rfl:=hw1.symm;rw [show (⟨#[120]⟩:ByteArray).data.toList = [120] from rfl,P1.out];clear tok1)
   |(go_at_call 170;refine (HC.out _ (Below.refl _ _)).mono ?_;rintro e w1 ⟨he,hb1⟩;rw [HU.out] at he;obtain rfl:=he;have HB1:=hide hb1;clear hb1)
   |(go_at_call 171;refine (signOf_any _ _ HN31.out (HT.out.below HB1.out HT.out.lt) (tabs_kept HTU.out HB1.out)).mono ?_;rintro e w2 ⟨rfl,hb2⟩;have HB2:=hide (HB1.out.trans (hb2.mono HB1.out.size));clear hb2))
   go_ret2;exact ⟨by rw [HR.out];rfl,HB2.out⟩
theorem byNumber_X (D:ByteArray) (ev:Value) (w:World) (hs:D.size <= 8) (p1:Lib.hasPrefix D.data.toList [120] = false) (p2:Lib.hasPrefix D.data.toList [88] = true) (hT:Tab w) (hU:Lib.Utf8Tabs 4 5 w)
  (hv:w.cell? ⟨1,0,none⟩ = some ev) (hev:ev = .nilIface \/ ∃ te pe,ev = .iface te pe) :
  Calls Tryz.prog 146 #[.string D] w fun e w'=>e = .returned (entV (numAt 16 6 (D.extract 1 D.size).data.toList)) /\ Below w.heap.size w w':=by
 have z1:1 <= D.size:=pref_size p2;have k1:(1:Int) <= D.size:=by omega
 have P1:Hid (Lib.hasPrefix D.data.toList [120] = false):=hide p1;have P2:Hid (Lib.hasPrefix D.data.toList [88] = true):=hide p2;have HT:=hide hT;have HTU:=hide hU;have HC:=hide (fun w1 (hb:Below w.heap.size w w1)=>parse16_any (D.extract 1 D.size) ev w1 (Nat.le_trans (by rw [ByteArray.size_extract];omega) hs) ((hb.cell (p:=⟨1,0,none⟩) (World.block_lt_of_cell? _ _ hv)).trans hv) hev);have tok1:True:=trivial;have tok2:True:=trivial;have hrl:(D.extract 1 D.size).size = (D.size - 1):=(by rw [ByteArray.size_extract];omega)
 have HB0:=hide (parse_lt (b:=16) (l:=(D.extract 1 D.size).data.toList) (by decide));cases hu:parseU 16 (D.extract 1 D.size).data.toList with
 | none =>
  have HU:=hide hu;have HR:Hid (numAt 16 6 (D.extract 1 D.size).data.toList = none):=hide (by unfold numAt;rw [hu]);clear hu hT hU hv hev p1 p2;go_enter Tryz.func146,Tryz.ntmps146
  go_wp2_with (first
   |(go_at_call 65;have _t:=tok1;refine (Tryz.strings_HasPrefix D ⟨#[120]⟩ _).mono ?_;rintro e w1 ⟨rfl,hw1⟩;obtain rfl:=hw1.symm;rw [show (⟨#[120]⟩:ByteArray).data.toList = [120] from rfl,P1.out];clear tok1)
   |(go_at_call 65;have _t:=tok2;refine (Tryz.strings_HasPrefix D ⟨#[88]⟩ _).mono ?_;rintro e w1 ⟨rfl,hw1⟩;obtain rfl:=hw1.symm;rw [show (⟨#[88]⟩:ByteArray).data.toList = [88] from rfl,P2.out];clear tok2)
   |(go_at_call 170;refine (HC.out _ (Below.refl _ _)).mono ?_;rintro e w1 ⟨he,hb1⟩;rw [HU.out] at he;obtain ⟨N,rfl⟩:=he;have HB1:=hide hb1;clear hb1)
   |(go_at_call 171;refine (signOf_any _ _ HN31.out (HT.out.below HB1.out HT.out.lt) (tabs_kept HTU.out HB1.out)).mono ?_;rintro e w2 ⟨rfl,hb2⟩;have HB2:=hide (HB1.out.trans (hb2.mono HB1.out.size));clear hb2))
  go_ret2;exact ⟨by rw [HR.out];rfl,HB1.out⟩
 | some n =>
  have HU:=hide hu;have hlt:=HB0.out n hu;rw [toList_length,hrl] at hlt
  by_cases hm:6 < (D.size - 1)
  ·have HR:Hid (numAt 16 6 (D.extract 1 D.size).data.toList = none):=hide (by unfold numAt;rw [hu];simp only [];rw [toList_length,hrl,if_pos hm]);have t1:decide ((6:Int) < ((D.extract 1 D.size).size:Int)) = true:=decide_eq_true (by rw [hrl];omega);have t2:decide (6 < (D.extract 1 D.size).size) = true:=decide_eq_true (by rw [hrl];exact hm);have t3:decide ((6:Int) < (((D.size - 1):Nat):Int)) = true:=decide_eq_true (by omega);have t4:decide (6 < (D.size - 1)) = true:=decide_eq_true hm;clear hu hT hU hv hev p1 p2 hlt hm hrl;go_enter Tryz.func146,Tryz.ntmps146;go_wp2_with (first
   |(go_at_call 65;have _t:=tok1;refine (Tryz.strings_HasPrefix D ⟨#[120]⟩ _).mono ?_;rintro e w1 ⟨rfl,hw1⟩;obtain rfl:=hw1.symm;rw [show (⟨#[120]⟩:ByteArray).data.toList = [120] from rfl,P1.out];clear tok1)
   |(go_at_call 65;have _t:=tok2;refine (Tryz.strings_HasPrefix D ⟨#[88]⟩ _).mono ?_;rintro e w1 ⟨rfl,hw1⟩;obtain rfl:=hw1.symm;rw [show (⟨#[88]⟩:ByteArray).data.toList = [88] from rfl,P2.out];clear tok2)
   |(go_at_call 170;refine (HC.out _ (Below.refl _ _)).mono ?_;rintro e w1 ⟨he,hb1⟩;rw [HU.out] at he;obtain rfl:=he;have HB1:=hide hb1;clear hb1)
   |(go_at_call 171;refine (signOf_any _ _ HN31.out (HT.out.below HB1.out HT.out.lt) (tabs_kept HTU.out HB1.out)).mono ?_;rintro e w2 ⟨rfl,hb2⟩;have HB2:=hide (HB1.out.trans (hb2.mono HB1.out.size));clear hb2))
   go_ret2;exact ⟨by rw [HR.out];rfl,HB1.out⟩
  ·have HR:Hid (numAt 16 6 (D.extract 1 D.size).data.toList = some (signN n)):=hide (by unfold numAt;rw [hu];simp only [];rw [toList_length,hrl,if_neg hm]);have t1:decide ((6:Int) < ((D.extract 1 D.size).size:Int)) = false:=decide_eq_false (by rw [hrl];omega);have t2:decide (6 < (D.extract 1 D.size).size) = false:=decide_eq_false (by rw [hrl];exact hm);have t3:decide ((6:Int) < (((D.size - 1):Nat):Int)) = false:=decide_eq_false (by omega);have t4:decide (6 < (D.size - 1)) = false:=decide_eq_false hm;have hn31:n < 2147483648:=Nat.lt_of_lt_of_le hlt (Nat.le_trans (Nat.pow_le_pow_right (by decide) (by omega:(D.size - 1) <= 6)) (by decide));have HN31:=hide hn31;have x1:IntKind.i32.wrap (n:Int) = (n:Int):=IntWalk.i32_in _ (by omega);clear hu hT hU hv hev p1 p2 hlt hm hrl hn31;go_enter Tryz.func146,Tryz.ntmps146;go_wp2_with (first
   |(go_at_call 65;have _t:=tok1;refine (Tryz.strings_HasPrefix D ⟨#[120]⟩ _).mono ?_;rintro e w1 ⟨rfl,hw1⟩;obtain rfl:=hw1.symm;rw [show (⟨#[120]⟩:ByteArray).data.toList = [120] from rfl,P1.out];clear tok1)
   |(go_at_call 65;have _t:=tok2;refine (Tryz.strings_HasPrefix D ⟨#[88]⟩ _).mono ?_;rintro e w1 ⟨rfl,hw1⟩;obtain rfl:=hw1.symm;rw [show (⟨#[88]⟩:ByteArray).data.toList = [88] from rfl,P2.out];clear tok2)
   |(go_at_call 170;refine (HC.out _ (Below.refl _ _)).mono ?_;rintro e w1 ⟨he,hb1⟩;rw [HU.out] at he;obtain rfl:=he;have HB1:=hide hb1;clear hb1)
   |(go_at_call 171;refine (signOf_any _ _ HN31.out (HT.out.below HB1.out HT.out.lt) (tabs_kept HTU.out HB1.out)).mono ?_;rintro e w2 ⟨rfl,hb2⟩;have HB2:=hide (HB1.out.trans (hb2.mono HB1.out.size));clear hb2))
   go_ret2;exact ⟨by rw [HR.out];rfl,HB2.out⟩
theorem byNumber_d (D:ByteArray) (ev:Value) (w:World) (hs:D.size <= 8) (p1:Lib.hasPrefix D.data.toList [120] = false) (p2:Lib.hasPrefix D.data.toList [88] = false) (hT:Tab w) (hU:Lib.Utf8Tabs 4 5 w)
  (hv:w.cell? ⟨1,0,none⟩ = some ev) (hev:ev = .nilIface \/ ∃ te pe,ev = .iface te pe) :
  Calls Tryz.prog 146 #[.string D] w fun e w'=>e = .returned (entV (numAt 10 7 D.data.toList)) /\ Below w.heap.size w w':=by
 have P1:Hid (Lib.hasPrefix D.data.toList [120] = false):=hide p1;have P2:Hid (Lib.hasPrefix D.data.toList [88] = false):=hide p2;have HT:=hide hT;have HTU:=hide hU;have HC:=hide (fun w1 (hb:Below w.heap.size w w1)=>parse10_any D ev w1 hs ((hb.cell (p:=⟨1,0,none⟩) (World.block_lt_of_cell? _ _ hv)).trans hv) hev);have tok1:True:=trivial;have tok2:True:=trivial;have hrl:D.size = D.size:=rfl;have HB0:=hide (parse_lt (b:=10) (l:=D.data.toList) (by decide));cases hu:parseU 10 D.data.toList with
 | none =>
  have HU:=hide hu;have HR:Hid (numAt 10 7 D.data.toList = none):=hide (by unfold numAt;rw [hu]);clear hu hT hU hv hev p1 p2;go_enter Tryz.func146,Tryz.ntmps146
  go_wp2_with (first
   |(go_at_call 65;have _t:=tok1;refine (Tryz.strings_HasPrefix D ⟨#[120]⟩ _).mono ?_;rintro e w1 ⟨rfl,hw1⟩;obtain rfl:=hw1.symm;rw [show (⟨#[120]⟩:ByteArray).data.toList = [120] from rfl,P1.out];clear tok1)
   |(go_at_call 65;have _t:=tok2;refine (Tryz.strings_HasPrefix D ⟨#[88]⟩ _).mono ?_;rintro e w1 ⟨rfl,hw1⟩;obtain rfl:=hw1.symm;rw [show (⟨#[88]⟩:ByteArray).data.toList = [88] from rfl,P2.out];clear tok2)
   |(go_at_call 170;refine (HC.out _ (Below.refl _ _)).mono ?_;rintro e w1 ⟨he,hb1⟩;rw [HU.out] at he;obtain ⟨N,rfl⟩:=he;have HB1:=hide hb1;clear hb1)
   |(go_at_call 171;refine (signOf_any _ _ HN31.out (HT.out.below HB1.out HT.out.lt) (tabs_kept HTU.out HB1.out)).mono ?_;rintro e w2 ⟨rfl,hb2⟩;have HB2:=hide (HB1.out.trans (hb2.mono HB1.out.size));clear hb2))
  go_ret2;exact ⟨by rw [HR.out];rfl,HB1.out⟩
 | some n =>
  have HU:=hide hu;have hlt:=HB0.out n hu;rw [toList_length,hrl] at hlt
  by_cases hm:7 < D.size
  ·have HR:Hid (numAt 10 7 D.data.toList = none):=hide (by unfold numAt;rw [hu];simp only [];rw [toList_length,hrl,if_pos hm]);have t1:decide ((7:Int) < (D.size:Int)) = true:=decide_eq_true (by rw [hrl];omega);have t2:decide (7 < D.size) = true:=decide_eq_true (by rw [hrl];exact hm);have t3:decide ((7:Int) < ((D.size:Nat):Int)) = true:=decide_eq_true (by omega);have t4:decide (7 < D.size) = true:=decide_eq_true hm;clear hu hT hU hv hev p1 p2 hlt hm hrl;go_enter Tryz.func146,Tryz.ntmps146;go_wp2_with (first
   |(go_at_call 65;have _t:=tok1;refine (Tryz.strings_HasPrefix D ⟨#[120]⟩ _).mono ?_;rintro e w1 ⟨rfl,hw1⟩;obtain rfl:=hw1.symm;rw [show (⟨#[120]⟩:ByteArray).data.toList = [120] from rfl,P1.out];clear tok1)
   |(go_at_call 65;have _t:=tok2;refine (Tryz.strings_HasPrefix D ⟨#[88]⟩ _).mono ?_;rintro e w1 ⟨rfl,hw1⟩;obtain rfl:=hw1.symm;rw [show (⟨#[88]⟩:ByteArray).data.toList = [88] from rfl,P2.out];clear tok2)
   |(go_at_call 170;refine (HC.out _ (Below.refl _ _)).mono ?_;rintro e w1 ⟨he,hb1⟩;rw [HU.out] at he;obtain rfl:=he;have HB1:=hide hb1;clear hb1)
   |(go_at_call 171;refine (signOf_any _ _ HN31.out (HT.out.below HB1.out HT.out.lt) (tabs_kept HTU.out HB1.out)).mono ?_;rintro e w2 ⟨rfl,hb2⟩;have HB2:=hide (HB1.out.trans (hb2.mono HB1.out.size));clear hb2))
   go_ret2;exact ⟨by rw [HR.out];rfl,HB1.out⟩
  ·have HR:Hid (numAt 10 7 D.data.toList = some (signN n)):=hide (by unfold numAt;rw [hu];simp only [];rw [toList_length,hrl,if_neg hm]);have t1:decide ((7:Int) < (D.size:Int)) = false:=decide_eq_false (by rw [hrl];omega);have t2:decide (7 < D.size) = false:=decide_eq_false (by rw [hrl];exact hm);have t3:decide ((7:Int) < ((D.size:Nat):Int)) = false:=decide_eq_false (by omega);have t4:decide (7 < D.size) = false:=decide_eq_false hm;have hn31:n < 2147483648:=Nat.lt_of_lt_of_le hlt (Nat.le_trans (Nat.pow_le_pow_right (by decide) (by omega:D.size <= 7)) (by decide));have HN31:=hide hn31;have x1:IntKind.i32.wrap (n:Int) = (n:Int):=IntWalk.i32_in _ (by omega);clear hu hT hU hv hev p1 p2 hlt hm hrl hn31;go_enter Tryz.func146,Tryz.ntmps146;go_wp2_with (first
   |(go_at_call 65;have _t:=tok1;refine (Tryz.strings_HasPrefix D ⟨#[120]⟩ _).mono ?_;rintro e w1 ⟨rfl,hw1⟩;obtain rfl:=hw1.symm;rw [show (⟨#[120]⟩:ByteArray).data.toList = [120] from rfl,P1.out];clear tok1)
   |(go_at_call 65;have _t:=tok2;refine (Tryz.strings_HasPrefix D ⟨#[88]⟩ _).mono ?_;rintro e w1 ⟨rfl,hw1⟩;obtain rfl:=hw1.symm;rw [show (⟨#[88]⟩:ByteArray).data.toList = [88] from rfl,P2.out];clear tok2)
   |(go_at_call 170;refine (HC.out _ (Below.refl _ _)).mono ?_;rintro e w1 ⟨he,hb1⟩;rw [HU.out] at he;obtain rfl:=he;have HB1:=hide hb1;clear hb1)
   |(go_at_call 171;refine (signOf_any _ _ HN31.out (HT.out.below HB1.out HT.out.lt) (tabs_kept HTU.out HB1.out)).mono ?_;rintro e w2 ⟨rfl,hb2⟩;have HB2:=hide (HB1.out.trans (hb2.mono HB1.out.size));clear hb2))
   go_ret2;exact ⟨by rw [HR.out];rfl,HB2.out⟩
theorem index_cut (c:UInt8) (l:List UInt8):(Lib.indexByte l c = -1 /\ c ∉ l /\ beforeC c l = l /\ afterC c l = []) \/ ∃ o:Nat,Lib.indexByte l c = o /\ o < l.length /\ c ∈ l /\ beforeC c l = l.take o /\ afterC c l = l.drop (o + 1):=by
 induction l with
 | nil=>exact .inl ⟨rfl,by simp,rfl,rfl⟩
 | cons a r ih =>
  by_cases h:a = c
  ·subst h;have:=cut_at a (a :: r) 0 (by simp) rfl (fun j hj=>absurd hj (by omega));exact .inr ⟨0,by simp [Lib.indexByte],by simp,this.1,this.2.1,this.2.2⟩
  ·have h1:(a == c) = false:=by simp [h]
   have h2:(a != c) = true:=by simp [h]
   have eb:beforeC c (a :: r) = a :: beforeC c r:=by simp [beforeC,List.takeWhile_cons,h2]
   have ea:afterC c (a :: r) = afterC c r:=by simp [afterC,List.dropWhile_cons,h2]
   rcases ih with ⟨i1,i2,i3,i4⟩ | ⟨o,i1,i2,i3,i4,i5⟩
   ·refine .inl ⟨by simp [Lib.indexByte,h1,i1],?_,by rw [eb,i3],by rw [ea,i4]⟩;intro hm;rcases List.mem_cons.1 hm with e | e
    ·exact h e.symm
    ·exact i2 e
   ·have hne:((o:Int) == -1) = false:=by rw [beq_eq_false_iff_ne];omega
    refine .inr ⟨o + 1,by simp [Lib.indexByte,h1,i1,hne],by simp;omega,List.mem_cons_of_mem _ i3,by rw [eb,i4];rfl,by rw [ea,i5];rfl⟩
def cutV (c:UInt8) (l:List UInt8):Value:=.tuple #[.string (str (beforeC c l)),.string (str (afterC c l)),.bool (hasC c l)]
theorem ret_cut {a b x y:ByteArray} {d e:Bool} (h:a = b) (h':x = y) (h'':d = e):Ending.returned (.tuple #[.string a,.string x,.bool d]) = .returned (.tuple #[.string b,.string y,.bool e]):=by rw [h,h',h'']
theorem cut_any (s:ByteArray) (c:UInt8) (w:World) (hs:s.size <= 70368744177664) :
  Calls Tryz.prog 143 #[.string s,.string ⟨#[c]⟩] w fun e w'=>e = .returned (cutV c s.data.toList) /\ Below w.heap.size w w':=by
 have hz:(⟨#[c]⟩:ByteArray).size = 1:=rfl;rcases index_cut c s.data.toList with ⟨i1,i2,i3,i4⟩ | ⟨o,i1,i2,i3,i4,i5⟩
 ·have I1:=hide i1;have I2:=hide i2;have I3:=hide i3;have I4:=hide i4;clear i1 i2 i3 i4;go_enter Tryz.func143,Tryz.ntmps143;go_wp2_with fail;refine (Tryz.stringslite_Index_one s c _).mono ?_;rintro e w1 ⟨rfl,hw⟩;subst hw;rw [I1.out];go_wp2_with fail;go_ret3;exact ⟨ret_cut (by rw [I3.out,str_of]) (by rw [I4.out];rfl) (by rw [hasC_false I2.out]),Below.refl _ _⟩
 ·have I1:=hide i1;have I3:=hide i3;have I4:=hide i4;have I5:=hide i5;rw [toList_length] at i2;have o1:(o:Int) + 1 <= s.size:=by omega
  have o0:(0:Int) <= o:=by omega
  have o2:(o:Int) <= s.size:=by omega
  have o3:(0:Int) <= (o:Int) + 1:=by omega
  have o4:((o:Int) + 1).toNat = o + 1:=by omega
  clear i1 i3 i4 i5;go_enter Tryz.func143,Tryz.ntmps143;go_wp2_with fail;refine (Tryz.stringslite_Index_one s c _).mono ?_;rintro e w1 ⟨rfl,hw⟩;subst hw;rw [I1.out];go_wp2_with fail;go_region
  all_goals (try go_wp2)
  all_goals
   go_ret3;exact ⟨ret_cut (ext_list (by rw [extract_list,List.drop_zero,str_toList,I4.out])) (ext_list (by rw [extract_end,str_toList,I5.out])) (by rw [hasC_true I3.out]),(Below.refl _ _).drew⟩
theorem strCut_any (s:ByteArray) (c:UInt8) (w:World) (hs:s.size <= 70368744177664) :
  Calls Tryz.prog 113 #[.string s,.string ⟨#[c]⟩] w fun e w'=>e = .returned (cutV c s.data.toList) /\ Below w.heap.size w w':=by
 go_enter Tryz.func113,Tryz.ntmps113;go_wp2_with fail;refine (cut_any s c _ hs).mono ?_;rintro e w1 ⟨rfl,hb⟩;unfold cutV;go_wp2_with fail;go_ret3;exact ⟨rfl,hb⟩
def byN (l:List UInt8):Option Int:=if Lib.hasPrefix l [120] || Lib.hasPrefix l [88] then numAt 16 6 (l.drop 1) else numAt 10 7 l
def sgn (l:List UInt8):Option Int:=if Lib.hasPrefix l [35] = true then byN (Lib.trimPrefix l [35]) else nameN l
def refN (l:List UInt8):Int × Nat :=
  match sgn (beforeC 59 (l.take 9)),hasC 59 (l.take 9) with
  | some x,true=>(x,(beforeC 59 (l.take 9)).length + 1)
  | _,_=>(0,0)
theorem byNumber_any (D:ByteArray) (ev:Value) (w:World) (hs:D.size <= 8) (hT:Tab w) (hU:Lib.Utf8Tabs 4 5 w)
  (hv:w.cell? ⟨1,0,none⟩ = some ev) (hev:ev = .nilIface \/ ∃ te pe,ev = .iface te pe) :
  Calls Tryz.prog 146 #[.string D] w fun e w'=>e = .returned (entV (byN D.data.toList)) /\ Below w.heap.size w w':=by
 cases p1:Lib.hasPrefix D.data.toList [120] with
 | true =>
  have e:byN D.data.toList = numAt 16 6 (D.extract 1 D.size).data.toList:=by unfold byN;rw [p1,extract_end];rfl
  rw [e];exact byNumber_x D ev w hs p1 hT hU hv hev
 | false =>
  cases p2:Lib.hasPrefix D.data.toList [88] with
  | true =>
   have e:byN D.data.toList = numAt 16 6 (D.extract 1 D.size).data.toList:=by unfold byN;rw [p1,p2,extract_end];rfl
   rw [e];exact byNumber_X D ev w hs p1 p2 hT hU hv hev
  | false =>
   have e:byN D.data.toList = numAt 10 7 D.data.toList:=by unfold byN;rw [p1,p2];rfl
   rw [e];exact byNumber_d D ev w hs p1 p2 hT hU hv hev
theorem dig_size {C D:ByteArray} (hp:Lib.hasPrefix C.data.toList [35] = true) (hD:D.data.toList = Lib.trimPrefix C.data.toList [35]) (h:C.size <= 9):D.size <= 8:=by
 have:=congrArg List.length hD;rw [toList_length] at this;rw [this];unfold Lib.trimPrefix;rw [hp];have:=pref_size hp;simp only [if_true,List.length_drop,toList_length];have e1:([35]:List UInt8).length = 1:=rfl;omega
def refV (o:Int × Nat):Value:=.tuple #[.int .i32 o.1,.int .i64 o.2]
theorem reference_any (R:ByteArray) (b:Nat) (ev:Value) (w:World) (hs:R.size <= 16777216) (hM:SMapN w b 16 nameN) (hT:Tab w) (hU:Lib.Utf8Tabs 4 5 w)
  (hv:w.cell? ⟨1,0,none⟩ = some ev) (hev:ev = .nilIface \/ ∃ te pe,ev = .iface te pe) :
  Calls Tryz.prog 118 #[.string R,.map (some b)] w fun e w'=>e = .returned (refV (refN R.data.toList)) /\ Below w.heap.size w w':=by
 have zC:(beforeC 59 (R.data.toList.take 9)).length <= 9:=Nat.le_trans ((List.takeWhile_sublist _).length_le) (List.length_take_le _ _);obtain ⟨C,hC⟩:∃ C,C = str (beforeC 59 (R.data.toList.take 9)):=⟨_,rfl⟩
 have hCt:C.data.toList = beforeC 59 (R.data.toList.take 9):=by rw [hC,str_toList]
 have HCS:Hid (C.size <= maxLen):=hide (by rw [hC,str_size];exact Nat.le_trans zC (by decide));have hCs:C.size <= 9:=by rw [hC,str_size];exact zC
 have HM:=hide hM;obtain ⟨D,hD⟩:∃ D,D = (⟨(Lib.trimPrefix C.data.toList [35]).toArray⟩:ByteArray):=⟨_,rfl⟩
 have hDt:D.data.toList = Lib.trimPrefix C.data.toList [35]:=by rw [hD]
 have hpre:=fun w1=>Tryz.strings_CutPrefix C ⟨#[35]⟩ w1
 rw [show (⟨#[35]⟩:ByteArray).data.toList = [35] from rfl,<- hD] at hpre
 by_cases hz:R.size < 9
 ·have m1:decide ((R.size:Int) < 9) = true:=decide_eq_true (by omega);have mn:min (R.size:Int) 9 = R.size:=by omega
  obtain ⟨N,hN⟩:∃ N,N = R:=⟨_,rfl⟩
  have hNt:N.data.toList = R.data.toList.take 9:=by rw [hN,List.take_of_length_le (by rw [toList_length];omega)]
  have hcut:=fun w1=>strCut_any N 59 w1 (by rw [<- toList_length,hNt];exact Nat.le_trans (List.length_take_le _ _) (by decide))
  simp only [cutV] at hcut;rw [hNt,<- hC,hN] at hcut;cases hp:Lib.hasPrefix C.data.toList [35]
  ·have HP:Hid (Lib.hasPrefix C.data.toList [35] = false):=hide hp;rw [hp] at hpre;have HPRE:=hide hpre;have hsg:sgn C.data.toList = nameN C.data.toList:=by unfold sgn;rw [hp,if_neg (by decide)]
   cases hsn:nameN C.data.toList with
   | none =>
    rw [hsn] at hsg;have HNM:=hide hsn;cases hend:hasC 59 (R.data.toList.take 9) with
    | false =>
     have HR:Hid (refN R.data.toList = (0,0)):=hide (by unfold refN;rw [<- hCt,hsg,hend]);rw [hend] at hcut;have HCUT:=hide hcut;clear hcut hsg hsn hend hp hpre hT hU hv hev hM hC hCt hDt hD hN hNt zC;go_enter Tryz.func118,Tryz.ntmps118;go_wp2_with (first | (go_at_call 113;with_reducible refine (HCUT.out _).mono ?_;rintro e w1 ⟨rfl,hb1⟩;have HB1:=hide hb1;clear hb1) | (go_at_call 122;with_reducible refine (HPRE.out _).mono ?_;rintro e wp ⟨rfl,hwp⟩;obtain rfl:=hwp) | (at_lookup;refine wpList_sm_look rfl _ _ rfl b 16 nameN rfl (HM.out.kept HB1.out) C HCS.out rfl ?_;rw [HNM.out]));go_ret2;exact ⟨by rw [HR.out];rfl,HB1.out⟩
    | true =>
     have HR:Hid (refN R.data.toList = (0,0)):=hide (by unfold refN;rw [<- hCt,hsg,hend]);rw [hend] at hcut;have HCUT:=hide hcut;clear hcut hsg hsn hend hp hpre hT hU hv hev hM hC hCt hDt hD hN hNt zC;go_enter Tryz.func118,Tryz.ntmps118;go_wp2_with (first | (go_at_call 113;with_reducible refine (HCUT.out _).mono ?_;rintro e w1 ⟨rfl,hb1⟩;have HB1:=hide hb1;clear hb1) | (go_at_call 122;with_reducible refine (HPRE.out _).mono ?_;rintro e wp ⟨rfl,hwp⟩;obtain rfl:=hwp) | (at_lookup;refine wpList_sm_look rfl _ _ rfl b 16 nameN rfl (HM.out.kept HB1.out) C HCS.out rfl ?_;rw [HNM.out]));go_ret2;exact ⟨by rw [HR.out];rfl,HB1.out⟩
   | some x =>
    rw [hsn] at hsg;have HNM:=hide hsn;cases hend:hasC 59 (R.data.toList.take 9) with
    | false =>
     have HR:Hid (refN R.data.toList = (0,0)):=hide (by unfold refN;rw [<- hCt,hsg,hend]);rw [hend] at hcut;have HCUT:=hide hcut;clear hcut hsg hsn hend hp hpre hT hU hv hev hM hC hCt hDt hD hN hNt zC;go_enter Tryz.func118,Tryz.ntmps118;go_wp2_with (first | (go_at_call 113;with_reducible refine (HCUT.out _).mono ?_;rintro e w1 ⟨rfl,hb1⟩;have HB1:=hide hb1;clear hb1) | (go_at_call 122;with_reducible refine (HPRE.out _).mono ?_;rintro e wp ⟨rfl,hwp⟩;obtain rfl:=hwp) | (at_lookup;refine wpList_sm_look rfl _ _ rfl b 16 nameN rfl (HM.out.kept HB1.out) C HCS.out rfl ?_;rw [HNM.out]));go_ret2;exact ⟨by rw [HR.out];rfl,HB1.out⟩
    | true =>
     have HR:Hid (refN R.data.toList = (x,C.size + 1)):=hide (by unfold refN;rw [<- hCt,hsg,hend];simp only [toList_length]);rw [hend] at hcut;have HCUT:=hide hcut;clear hcut hsg hsn hend hp hpre hT hU hv hev hM hC hCt hDt hD hN hNt zC;go_enter Tryz.func118,Tryz.ntmps118;go_wp2_with (first | (go_at_call 113;with_reducible refine (HCUT.out _).mono ?_;rintro e w1 ⟨rfl,hb1⟩;have HB1:=hide hb1;clear hb1) | (go_at_call 122;with_reducible refine (HPRE.out _).mono ?_;rintro e wp ⟨rfl,hwp⟩;obtain rfl:=hwp) | (at_lookup;refine wpList_sm_look rfl _ _ rfl b 16 nameN rfl (HM.out.kept HB1.out) C HCS.out rfl ?_;rw [HNM.out]));go_ret2;exact ⟨by rw [HR.out];rfl,HB1.out⟩
  ·have HP:Hid (Lib.hasPrefix C.data.toList [35] = true):=hide hp;rw [hp] at hpre;have HPRE:=hide hpre;obtain ⟨nm,hnm⟩:∃ nm,nameN C.data.toList = nm:=⟨_,rfl⟩
   have HNM:=hide hnm;have hsg:sgn C.data.toList = byN D.data.toList:=by unfold sgn;rw [hp,if_pos rfl,hDt]
   have hds:D.size <= 8:=dig_size hp hDt (by rw [<- hCt] at zC;rw [toList_length] at zC;exact zC);have hnum:=fun w1 (hb:Below w.heap.size w w1)=>byNumber_any D ev w1 hds (hT.below hb hT.lt) (tabs_kept hU hb) ((hb.cell (p:=⟨1,0,none⟩) (World.block_lt_of_cell? _ _ hv)).trans hv) hev
   cases hsn:byN D.data.toList with
   | none =>
    rw [hsn] at hsg;rw [hsn] at hnum;simp only [entV] at hnum;have HNUM:=hide hnum;cases hend:hasC 59 (R.data.toList.take 9) with
    | false =>
     have HR:Hid (refN R.data.toList = (0,0)):=hide (by unfold refN;rw [<- hCt,hsg,hend]);rw [hend] at hcut;have HCUT:=hide hcut;clear hcut hsg hsn hend hp hpre hT hU hv hev hM hC hCt hDt hD hN hNt zC hnm hnum hds;go_enter Tryz.func118,Tryz.ntmps118;go_wp2_with (first | (go_at_call 113;with_reducible refine (HCUT.out _).mono ?_;rintro e w1 ⟨rfl,hb1⟩;have HB1:=hide hb1;clear hb1) | (go_at_call 122;with_reducible refine (HPRE.out _).mono ?_;rintro e wp ⟨rfl,hwp⟩;obtain rfl:=hwp) | (at_lookup;refine wpList_sm_look rfl _ _ rfl b 16 nameN rfl (HM.out.kept HB1.out) C HCS.out rfl ?_;rw [HNM.out]) | (go_at_call 146;with_reducible refine (HNUM.out _ HB1.out).mono ?_;rintro e w2 ⟨rfl,hb2⟩;have HB2:=hide (HB1.out.trans (hb2.mono HB1.out.size));clear hb2));go_ret2;exact ⟨by rw [HR.out];rfl,HB2.out⟩
    | true =>
     have HR:Hid (refN R.data.toList = (0,0)):=hide (by unfold refN;rw [<- hCt,hsg,hend]);rw [hend] at hcut;have HCUT:=hide hcut;clear hcut hsg hsn hend hp hpre hT hU hv hev hM hC hCt hDt hD hN hNt zC hnm hnum hds;go_enter Tryz.func118,Tryz.ntmps118;go_wp2_with (first | (go_at_call 113;with_reducible refine (HCUT.out _).mono ?_;rintro e w1 ⟨rfl,hb1⟩;have HB1:=hide hb1;clear hb1) | (go_at_call 122;with_reducible refine (HPRE.out _).mono ?_;rintro e wp ⟨rfl,hwp⟩;obtain rfl:=hwp) | (at_lookup;refine wpList_sm_look rfl _ _ rfl b 16 nameN rfl (HM.out.kept HB1.out) C HCS.out rfl ?_;rw [HNM.out]) | (go_at_call 146;with_reducible refine (HNUM.out _ HB1.out).mono ?_;rintro e w2 ⟨rfl,hb2⟩;have HB2:=hide (HB1.out.trans (hb2.mono HB1.out.size));clear hb2));go_ret2;exact ⟨by rw [HR.out];rfl,HB2.out⟩
   | some x =>
    rw [hsn] at hsg;rw [hsn] at hnum;simp only [entV] at hnum;have HNUM:=hide hnum;cases hend:hasC 59 (R.data.toList.take 9) with
    | false =>
     have HR:Hid (refN R.data.toList = (0,0)):=hide (by unfold refN;rw [<- hCt,hsg,hend]);rw [hend] at hcut;have HCUT:=hide hcut;clear hcut hsg hsn hend hp hpre hT hU hv hev hM hC hCt hDt hD hN hNt zC hnm hnum hds;go_enter Tryz.func118,Tryz.ntmps118;go_wp2_with (first | (go_at_call 113;with_reducible refine (HCUT.out _).mono ?_;rintro e w1 ⟨rfl,hb1⟩;have HB1:=hide hb1;clear hb1) | (go_at_call 122;with_reducible refine (HPRE.out _).mono ?_;rintro e wp ⟨rfl,hwp⟩;obtain rfl:=hwp) | (at_lookup;refine wpList_sm_look rfl _ _ rfl b 16 nameN rfl (HM.out.kept HB1.out) C HCS.out rfl ?_;rw [HNM.out]) | (go_at_call 146;with_reducible refine (HNUM.out _ HB1.out).mono ?_;rintro e w2 ⟨rfl,hb2⟩;have HB2:=hide (HB1.out.trans (hb2.mono HB1.out.size));clear hb2));go_ret2;exact ⟨by rw [HR.out];rfl,HB2.out⟩
    | true =>
     have HR:Hid (refN R.data.toList = (x,C.size + 1)):=hide (by unfold refN;rw [<- hCt,hsg,hend];simp only [toList_length]);rw [hend] at hcut;have HCUT:=hide hcut;clear hcut hsg hsn hend hp hpre hT hU hv hev hM hC hCt hDt hD hN hNt zC hnm hnum hds;go_enter Tryz.func118,Tryz.ntmps118;go_wp2_with (first | (go_at_call 113;with_reducible refine (HCUT.out _).mono ?_;rintro e w1 ⟨rfl,hb1⟩;have HB1:=hide hb1;clear hb1) | (go_at_call 122;with_reducible refine (HPRE.out _).mono ?_;rintro e wp ⟨rfl,hwp⟩;obtain rfl:=hwp) | (at_lookup;refine wpList_sm_look rfl _ _ rfl b 16 nameN rfl (HM.out.kept HB1.out) C HCS.out rfl ?_;rw [HNM.out]) | (go_at_call 146;with_reducible refine (HNUM.out _ HB1.out).mono ?_;rintro e w2 ⟨rfl,hb2⟩;have HB2:=hide (HB1.out.trans (hb2.mono HB1.out.size));clear hb2));go_ret2;exact ⟨by rw [HR.out];rfl,HB2.out⟩
 ·have m1:decide ((R.size:Int) < 9) = false:=decide_eq_false (by omega);have mn:min (R.size:Int) 9 = 9:=by omega
  have m4:(9:Int) <= R.size:=by omega
  obtain ⟨N,hN⟩:∃ N,N = R.extract 0 9:=⟨_,rfl⟩
  have hNt:N.data.toList = R.data.toList.take 9:=by rw [hN,extract_list,List.drop_zero]
  have hcut:=fun w1=>strCut_any N 59 w1 (by rw [<- toList_length,hNt];exact Nat.le_trans (List.length_take_le _ _) (by decide))
  simp only [cutV] at hcut;rw [hNt,<- hC,hN] at hcut;cases hp:Lib.hasPrefix C.data.toList [35]
  ·have HP:Hid (Lib.hasPrefix C.data.toList [35] = false):=hide hp;rw [hp] at hpre;have HPRE:=hide hpre;have hsg:sgn C.data.toList = nameN C.data.toList:=by unfold sgn;rw [hp,if_neg (by decide)]
   cases hsn:nameN C.data.toList with
   | none =>
    rw [hsn] at hsg;have HNM:=hide hsn;cases hend:hasC 59 (R.data.toList.take 9) with
    | false =>
     have HR:Hid (refN R.data.toList = (0,0)):=hide (by unfold refN;rw [<- hCt,hsg,hend]);rw [hend] at hcut;have HCUT:=hide hcut;clear hcut hsg hsn hend hp hpre hT hU hv hev hM hC hCt hDt hD hN hNt zC;go_enter Tryz.func118,Tryz.ntmps118;go_wp2_with (first | (go_at_call 113;with_reducible refine (HCUT.out _).mono ?_;rintro e w1 ⟨rfl,hb1⟩;have HB1:=hide hb1;clear hb1) | (go_at_call 122;with_reducible refine (HPRE.out _).mono ?_;rintro e wp ⟨rfl,hwp⟩;obtain rfl:=hwp) | (at_lookup;refine wpList_sm_look rfl _ _ rfl b 16 nameN rfl (HM.out.kept HB1.out) C HCS.out rfl ?_;rw [HNM.out]));go_ret2;exact ⟨by rw [HR.out];rfl,HB1.out⟩
    | true =>
     have HR:Hid (refN R.data.toList = (0,0)):=hide (by unfold refN;rw [<- hCt,hsg,hend]);rw [hend] at hcut;have HCUT:=hide hcut;clear hcut hsg hsn hend hp hpre hT hU hv hev hM hC hCt hDt hD hN hNt zC;go_enter Tryz.func118,Tryz.ntmps118;go_wp2_with (first | (go_at_call 113;with_reducible refine (HCUT.out _).mono ?_;rintro e w1 ⟨rfl,hb1⟩;have HB1:=hide hb1;clear hb1) | (go_at_call 122;with_reducible refine (HPRE.out _).mono ?_;rintro e wp ⟨rfl,hwp⟩;obtain rfl:=hwp) | (at_lookup;refine wpList_sm_look rfl _ _ rfl b 16 nameN rfl (HM.out.kept HB1.out) C HCS.out rfl ?_;rw [HNM.out]));go_ret2;exact ⟨by rw [HR.out];rfl,HB1.out⟩
   | some x =>
    rw [hsn] at hsg;have HNM:=hide hsn;cases hend:hasC 59 (R.data.toList.take 9) with
    | false =>
     have HR:Hid (refN R.data.toList = (0,0)):=hide (by unfold refN;rw [<- hCt,hsg,hend]);rw [hend] at hcut;have HCUT:=hide hcut;clear hcut hsg hsn hend hp hpre hT hU hv hev hM hC hCt hDt hD hN hNt zC;go_enter Tryz.func118,Tryz.ntmps118;go_wp2_with (first | (go_at_call 113;with_reducible refine (HCUT.out _).mono ?_;rintro e w1 ⟨rfl,hb1⟩;have HB1:=hide hb1;clear hb1) | (go_at_call 122;with_reducible refine (HPRE.out _).mono ?_;rintro e wp ⟨rfl,hwp⟩;obtain rfl:=hwp) | (at_lookup;refine wpList_sm_look rfl _ _ rfl b 16 nameN rfl (HM.out.kept HB1.out) C HCS.out rfl ?_;rw [HNM.out]));go_ret2;exact ⟨by rw [HR.out];rfl,HB1.out⟩
    | true =>
     have HR:Hid (refN R.data.toList = (x,C.size + 1)):=hide (by unfold refN;rw [<- hCt,hsg,hend];simp only [toList_length]);rw [hend] at hcut;have HCUT:=hide hcut;clear hcut hsg hsn hend hp hpre hT hU hv hev hM hC hCt hDt hD hN hNt zC;go_enter Tryz.func118,Tryz.ntmps118;go_wp2_with (first | (go_at_call 113;with_reducible refine (HCUT.out _).mono ?_;rintro e w1 ⟨rfl,hb1⟩;have HB1:=hide hb1;clear hb1) | (go_at_call 122;with_reducible refine (HPRE.out _).mono ?_;rintro e wp ⟨rfl,hwp⟩;obtain rfl:=hwp) | (at_lookup;refine wpList_sm_look rfl _ _ rfl b 16 nameN rfl (HM.out.kept HB1.out) C HCS.out rfl ?_;rw [HNM.out]));go_ret2;exact ⟨by rw [HR.out];rfl,HB1.out⟩
  ·have HP:Hid (Lib.hasPrefix C.data.toList [35] = true):=hide hp;rw [hp] at hpre;have HPRE:=hide hpre;obtain ⟨nm,hnm⟩:∃ nm,nameN C.data.toList = nm:=⟨_,rfl⟩
   have HNM:=hide hnm;have hsg:sgn C.data.toList = byN D.data.toList:=by unfold sgn;rw [hp,if_pos rfl,hDt]
   have hds:D.size <= 8:=dig_size hp hDt (by rw [<- hCt] at zC;rw [toList_length] at zC;exact zC);have hnum:=fun w1 (hb:Below w.heap.size w w1)=>byNumber_any D ev w1 hds (hT.below hb hT.lt) (tabs_kept hU hb) ((hb.cell (p:=⟨1,0,none⟩) (World.block_lt_of_cell? _ _ hv)).trans hv) hev
   cases hsn:byN D.data.toList with
   | none =>
    rw [hsn] at hsg;rw [hsn] at hnum;simp only [entV] at hnum;have HNUM:=hide hnum;cases hend:hasC 59 (R.data.toList.take 9) with
    | false =>
     have HR:Hid (refN R.data.toList = (0,0)):=hide (by unfold refN;rw [<- hCt,hsg,hend]);rw [hend] at hcut;have HCUT:=hide hcut;clear hcut hsg hsn hend hp hpre hT hU hv hev hM hC hCt hDt hD hN hNt zC hnm hnum hds;go_enter Tryz.func118,Tryz.ntmps118;go_wp2_with (first | (go_at_call 113;with_reducible refine (HCUT.out _).mono ?_;rintro e w1 ⟨rfl,hb1⟩;have HB1:=hide hb1;clear hb1) | (go_at_call 122;with_reducible refine (HPRE.out _).mono ?_;rintro e wp ⟨rfl,hwp⟩;obtain rfl:=hwp) | (at_lookup;refine wpList_sm_look rfl _ _ rfl b 16 nameN rfl (HM.out.kept HB1.out) C HCS.out rfl ?_;rw [HNM.out]) | (go_at_call 146;with_reducible refine (HNUM.out _ HB1.out).mono ?_;rintro e w2 ⟨rfl,hb2⟩;have HB2:=hide (HB1.out.trans (hb2.mono HB1.out.size));clear hb2));go_ret2;exact ⟨by rw [HR.out];rfl,HB2.out⟩
    | true =>
     have HR:Hid (refN R.data.toList = (0,0)):=hide (by unfold refN;rw [<- hCt,hsg,hend]);rw [hend] at hcut;have HCUT:=hide hcut;clear hcut hsg hsn hend hp hpre hT hU hv hev hM hC hCt hDt hD hN hNt zC hnm hnum hds;go_enter Tryz.func118,Tryz.ntmps118;go_wp2_with (first | (go_at_call 113;with_reducible refine (HCUT.out _).mono ?_;rintro e w1 ⟨rfl,hb1⟩;have HB1:=hide hb1;clear hb1) | (go_at_call 122;with_reducible refine (HPRE.out _).mono ?_;rintro e wp ⟨rfl,hwp⟩;obtain rfl:=hwp) | (at_lookup;refine wpList_sm_look rfl _ _ rfl b 16 nameN rfl (HM.out.kept HB1.out) C HCS.out rfl ?_;rw [HNM.out]) | (go_at_call 146;with_reducible refine (HNUM.out _ HB1.out).mono ?_;rintro e w2 ⟨rfl,hb2⟩;have HB2:=hide (HB1.out.trans (hb2.mono HB1.out.size));clear hb2));go_ret2;exact ⟨by rw [HR.out];rfl,HB2.out⟩
   | some x =>
    rw [hsn] at hsg;rw [hsn] at hnum;simp only [entV] at hnum;have HNUM:=hide hnum;cases hend:hasC 59 (R.data.toList.take 9) with
    | false =>
     have HR:Hid (refN R.data.toList = (0,0)):=hide (by unfold refN;rw [<- hCt,hsg,hend]);rw [hend] at hcut;have HCUT:=hide hcut;clear hcut hsg hsn hend hp hpre hT hU hv hev hM hC hCt hDt hD hN hNt zC hnm hnum hds;go_enter Tryz.func118,Tryz.ntmps118;go_wp2_with (first | (go_at_call 113;with_reducible refine (HCUT.out _).mono ?_;rintro e w1 ⟨rfl,hb1⟩;have HB1:=hide hb1;clear hb1) | (go_at_call 122;with_reducible refine (HPRE.out _).mono ?_;rintro e wp ⟨rfl,hwp⟩;obtain rfl:=hwp) | (at_lookup;refine wpList_sm_look rfl _ _ rfl b 16 nameN rfl (HM.out.kept HB1.out) C HCS.out rfl ?_;rw [HNM.out]) | (go_at_call 146;with_reducible refine (HNUM.out _ HB1.out).mono ?_;rintro e w2 ⟨rfl,hb2⟩;have HB2:=hide (HB1.out.trans (hb2.mono HB1.out.size));clear hb2));go_ret2;exact ⟨by rw [HR.out];rfl,HB2.out⟩
    | true =>
     have HR:Hid (refN R.data.toList = (x,C.size + 1)):=hide (by unfold refN;rw [<- hCt,hsg,hend];simp only [toList_length]);rw [hend] at hcut;have HCUT:=hide hcut;clear hcut hsg hsn hend hp hpre hT hU hv hev hM hC hCt hDt hD hN hNt zC hnm hnum hds;go_enter Tryz.func118,Tryz.ntmps118;go_wp2_with (first | (go_at_call 113;with_reducible refine (HCUT.out _).mono ?_;rintro e w1 ⟨rfl,hb1⟩;have HB1:=hide hb1;clear hb1) | (go_at_call 122;with_reducible refine (HPRE.out _).mono ?_;rintro e wp ⟨rfl,hwp⟩;obtain rfl:=hwp) | (at_lookup;refine wpList_sm_look rfl _ _ rfl b 16 nameN rfl (HM.out.kept HB1.out) C HCS.out rfl ?_;rw [HNM.out]) | (go_at_call 146;with_reducible refine (HNUM.out _ HB1.out).mono ?_;rintro e w2 ⟨rfl,hb2⟩;have HB2:=hide (HB1.out.trans (hb2.mono HB1.out.size));clear hb2));go_ret2;exact ⟨by rw [HR.out];rfl,HB2.out⟩
end Go.Proofs.YtiejmkjpgjbodaaGreatDoor
