/- More of the first texts of this claim in one: each with its own head. No statement is proved here. -/
import Derived.Test.YtmgpmdfmkdhfgaaGreatDoorBaseO
import Derived.Maps.AppendAt
import Derived.Maps.OwnIn
import Derived.Lib.LazyBuf
import Derived.Laws.IdiomCopy
import Derived.Deep.Upon
import Derived.Test.YtmgpmdfmkdhfgaaGreatDoorBaseN
import Derived.Deep.MidRow
import Derived.Test.YtmgpmdfmkdhfgaaGreatDoorBaseM
import Derived.Deep.WholeRow
import Derived.Lib.SliceRun
import Derived.Defers
import Derived.Laws.Pointers
import Derived.Laws.LoneSync
import Derived.RegionTactic
import Derived.RegionCalls
import Derived.ChangeAlike
import Derived.Laws.NewBlocks
import Derived.Test.YtmgpmdfmkdhfgaaGreatDoorShelf
import Derived.Laws.Cover3
import Derived.Shelf.Strings.FuncGrows
import Derived.Maps.Own
import Derived.Maps.OwnSet
import Derived.Maps.Views
import Derived.Maps.StringElems
namespace Go.Proofs.YtmgpmdfmkdhfgaaGreatDoor
open Go.RowKit Go.Shelf
set_option linter.unusedVariables false
set_option linter.unusedSimpArgs false
set_option maxRecDepth 100000
def lastR (pre:List IdxL):List DeclL:=(lastD ((pre.map (·.2)).reverse)).reverse
def hasN (L:List DeclL) (n:List UInt8):Bool:=L.any (fun e=>e.1 == n)
theorem hasN_iff (L:List DeclL) (n:List UInt8):hasN L n = true ↔ ∃ e ∈ L,e.1 = n:=by
 unfold hasN;rw [List.any_eq_true];constructor
 ·rintro ⟨e,h,he⟩;exact ⟨e,h,by simpa using he⟩
 ·rintro ⟨e,h,he⟩;exact ⟨e,h,by simpa using he⟩
theorem lastR_step (pre:List IdxL) (x:IdxL):lastR (pre ++ [x]) = if safeD x.2 = true /\ hasN (lastR pre) x.2.1 = false then lastR pre ++ [x.2] else lastR pre:=by
 have e:((pre ++ [x]).map (·.2)).reverse = x.2 :: (pre.map (·.2)).reverse:=by simp
 have hh:hasN (lastR pre) x.2.1 = ((pre.map (·.2)).reverse).any (fun e=>e.1 == x.2.1 && safeD e):=by
  rw [Bool.eq_iff_iff,hasN_iff,List.any_eq_true];unfold lastR;constructor
  ·rintro ⟨e,h,he⟩;obtain ⟨y,hy,hn,hs⟩:=(lastD_names _ _).1 ⟨e,List.mem_reverse.1 h,he⟩;exact ⟨y,hy,by rw [hn,hs];simp⟩
  ·rintro ⟨e,h,he⟩;rw [Bool.and_eq_true,beq_iff_eq] at he;obtain ⟨y,hy,hn⟩:=(lastD_names ((pre.map (·.2)).reverse) x.2.1).2 ⟨e,h,he.1,he.2⟩;exact ⟨y,List.mem_reverse.2 hy,hn⟩
 rw [hh];unfold lastR;rw [e,lastD];split
 ·rw [List.reverse_cons]
 ·rfl
theorem lastR_yes {pre:List IdxL} {x:IdxL} (h1:safeD x.2 = true) (h2:hasN (lastR pre) x.2.1 = false):lastR (pre ++ [x]) = lastR pre ++ [x.2]:=by rw [lastR_step,if_pos ⟨h1,h2⟩]
theorem lastR_no1 {pre:List IdxL} {x:IdxL} (h1:safeD x.2 = false):lastR (pre ++ [x]) = lastR pre:=by rw [lastR_step,if_neg (fun h=>by rw [h1] at h;cases h.1)]
theorem lastR_no2 {pre:List IdxL} {x:IdxL} (h2:hasN (lastR pre) x.2.1 = true):lastR (pre ++ [x]) = lastR pre:=by rw [lastR_step,if_neg (fun h=>by rw [h2] at h;cases h.2)]
theorem lastR_len (pre:List IdxL):(lastR pre).length <= pre.length:=by
 unfold lastR;have:=(lastD_sub ((pre.map (·.2)).reverse)).length_le
 simpa using this
theorem backN_snd (D:List DeclL):∀ k,k <= D.length -> ((backN D k).map (·.2)).reverse = D.take k
 | 0,_=>rfl
 | k + 1,h=>by
  rw [backN,List.map_cons,List.reverse_cons,backN_snd D k (by omega),List.take_succ_eq_append_getElem (by omega)];rw [List.getD_eq_getElem?_getD,List.getElem?_eq_getElem (by omega)];rfl
theorem lastR_back (D:List DeclL):lastR (backN D D.length) = (lastD D).reverse:=by
 unfold lastR;rw [backN_snd D D.length (Nat.le_refl _),List.take_length]
theorem join_show (L:List DeclL):Lib.join (L.map showD) [59,32] = joinD L:=by
 unfold Lib.join
 induction L with
 | nil=>rfl
 | cons d r ih =>
  cases r with
  | nil=>simp [List.intercalate,joinD]
  | cons e r =>
   have:([59,32]:List UInt8).intercalate ((d :: e :: r).map showD) = showD d ++ ([59,32] ++ ([59,32]:List UInt8).intercalate ((e :: r).map showD)):=by
    simp [List.intercalate]
   rw [this,ih];rfl
def SRow (B:Nat) (v:Value) (l:List ByteArray) (W:World):Prop:=W.ownsRow B 9 1 v l.length (strVals l)
theorem SRow.nil (B:Nat) (W:World):SRow B (.slice none 0 0) [] W:=World.ownsRow_nil W B _ 1
theorem SRow.form {B:Nat} {v:Value} {l:List ByteArray} {W:World} (h:SRow B v l W):(v = .slice none 0 0 /\ l = []) \/ ∃ g cap,v = .slice (some ⟨g,0,none⟩) l.length cap /\ l.length <= cap /\ B <= g /\ g < W.heap.size /\ (∀ (j:Nat) x,l[j]? = some x -> W.cell? ⟨g,0 + j,none⟩ = some (.string x)) /\ (∀ j:Nat,W.frozen? ⟨g,0 + j,none⟩ = false):=by
 have h1:W.ownsRow B 9 1 v l.length (strVals l):=h;rcases h.2 with ⟨rfl,h0⟩ | ⟨g,cap,cur,rfl,hg,hh,hc,hm,_⟩
 ·exact .inl ⟨rfl,List.eq_nil_of_length_eq_zero h0⟩
 ·refine .inr ⟨g,cap,rfl,hc,hg,lt_of_block hh,fun j x hj=>?_,fun j=>?_⟩
  ·have hlt:=(List.getElem?_eq_some_iff.1 hj).1;rw [Nat.zero_add,h1.cellAt j (by omega)];simp [strVals,hj]
  ·unfold World.frozen?;rw [hh];simp
theorem SRow.slice_len {B:Nat} {v:Value} {l:List ByteArray} {W:World} (h:SRow B v l W):∃ A c,v = .slice A l.length c:=by
 rcases h.form with ⟨rfl,rfl⟩ | ⟨g,cap,rfl,_⟩
 ·exact ⟨_,_,rfl⟩
 ·exact ⟨_,_,rfl⟩
theorem SRow.kept {B:Nat} {v:Value} {l:List ByteArray} {W W':World} {row:Option Nat} (h:SRow B v l W) (hg:W.grownBy W' row) (hr:v.ownBlock = none \/ v.ownBlock ≠ row):SRow B v l W':=World.ownsRow.kept h hg hr
theorem SRow.lt {B:Nat} {v:Value} {l:List ByteArray} {W:World} (h:SRow B v l W):∀ b,v.ownBlock = some b -> B <= b /\ b < W.heap.size:=fun b hb=>World.ownsRow.lt h b hb
theorem SRow.block {B:Nat} {v:Value} {l:List ByteArray} {W:World} (h:SRow B v l W) {b:Nat} (hb:v.ownBlock = some b):∃ cur fr,W.heap[b]? = some (.cells cur 9 fr):=by
 rcases h.2 with ⟨rfl,_⟩ | ⟨g,cap,cur,rfl,_,hh,_⟩
 ·simp [Value.ownBlock] at hb
 ·have e:g = b:=by simpa [Value.ownBlock] using hb
  subst e;exact ⟨_,_,hh⟩
structure TwoRows (b1 b2 B:Nat) (v1 v2:Value) (l1 l2:List ByteArray) (W:World):Prop where
  x1:Boxed W b1 33 v1
  x2:Boxed W b2 33 v2
  r1:SRow B v1 l1 W
  r2:SRow B v2 l2 W
  ap:∀ b,v1.ownBlock = some b -> v2.ownBlock ≠ some b
theorem TwoRows.symm {b1 b2 B:Nat} {v1 v2:Value} {l1 l2:List ByteArray} {W:World} (h:TwoRows b1 b2 B v1 v2 l1 l2 W):TwoRows b2 b1 B v2 v1 l2 l1 W:=⟨h.x2,h.x1,h.r2,h.r1,fun b h2 h1=>h.ap b h1 h2⟩
theorem TwoRows.grown {b1 b2 B:Nat} {v1 v2:Value} {l1 l2:List ByteArray} {W W':World} {row:Option Nat} (h:TwoRows b1 b2 B v1 v2 l1 l2 W) (hg:W.grownBy W' row) (hr:∀ r,row = some r -> ∃ o:Obj,W.heap[r]? = some o /\ o.isCells = false):TwoRows b1 b2 B v1 v2 l1 l2 W':=by
 have hc:∀ {k:Nat} {cs:Array Value} {t:TypeId} {fr:Nat × Nat},W.heap[k]? = some (.cells cs t fr) -> some k ≠ row:=by
  intro k cs t fr hk e;obtain ⟨o,ho,hc⟩:=hr k e.symm;rw [hk] at ho;injection ho with ho;subst ho;cases hc
 have hv:∀ {v:Value} {l:List ByteArray},SRow B v l W -> v.ownBlock = none \/ v.ownBlock ≠ row:=by
  intro v l hl;cases e:v.ownBlock with
  | none=>exact .inl rfl
  | some b =>
   obtain ⟨cur,fr,hb⟩:=hl.block e;exact .inr (hc hb)
 exact ⟨h.x1.kept hg (hc h.x1),h.x2.kept hg (hc h.x2),h.r1.kept hg (hv h.r1),h.r2.kept hg (hv h.r2),h.ap⟩
theorem TwoRows.app {b1 b2 B:Nat} {v1 v2 v':Value} {l1 l2:List ByteArray} {W w1:World} {tmp:Obj} {c:ByteArray} (h:TwoRows b1 b2 B v1 v2 l1 l2 W) (h1:b1 < B) (h2:b2 < B) (hne:b1 ≠ b2) (hB:B <= W.heap.size)
  (ho:w1.ownsRow B 9 1 v' (l1.length + 1) (strVals l1 ++ [.string c])) (hg:(W.alloc tmp).grownBy w1 v1.ownBlock) (hat:v'.ownBlock = v1.ownBlock \/ v'.ownBlock = some (W.alloc tmp).heap.size) :
  Boxed w1 b1 33 v1 /\ Boxed w1 b2 33 v2 /\ TwoRows b1 b2 B v' v2 (l1 ++ [c]) l2 (w1.setCell ⟨b1,0,none⟩ v') /\ KeepsOthers W (w1.setCell ⟨b1,0,none⟩ v') /\ (∀ b,b < B -> b ≠ b1 -> (w1.setCell ⟨b1,0,none⟩ v').heap[b]? = W.heap[b]?) /\ W.heap.size <= (w1.setCell ⟨b1,0,none⟩ v').heap.size /\ (∀ b0,b0 <= b1 -> b0 <= B -> Below b0 W (w1.setCell ⟨b1,0,none⟩ v')):=by
 have hz:(W.alloc tmp).heap.size = W.heap.size + 1:=World.size_alloc ..;have hnb:∀ {b:Nat},b < B -> some b ≠ v1.ownBlock:=fun hb e=>by have:=(h.r1.lt _ e.symm).1;omega
 have hx1:Boxed w1 b1 33 v1:=(h.x1.alloc tmp).kept hg (hnb h1);have hx2:Boxed w1 b2 33 v2:=(h.x2.alloc tmp).kept hg (hnb h2)
 have hr2:SRow B v2 l2 w1:=SRow.kept (World.ownsRow.alloc h.r2 tmp) hg (by
  cases e:v2.ownBlock with
  | none=>exact .inl rfl
  | some b=>exact .inr (fun e2=>h.ap b e2.symm e))
 have hr1:SRow B v' (l1 ++ [c]) w1:=by
  unfold SRow;rw [List.length_append,List.length_singleton,strVals,List.map_append];exact ho
 have hap:∀ b,v'.ownBlock = some b -> v2.ownBlock ≠ some b:=by
  intro b hb e2;rcases hat with hat | hat
  ·exact h.ap b (by rw [<- hat];exact hb) e2
  ·rw [hb] at hat;injection hat with hat;have:=(h.r2.lt b e2).2;omega
 have hso:∀ {v:Value} {l:List ByteArray},SRow B v l w1 -> SRow B v l (w1.setCell ⟨b1,0,none⟩ v'):=fun {v l} hl=>SRow.kept hl (grownBy_setCell' w1 b1 v') (by
  cases e:v.ownBlock with
  | none=>exact .inl rfl
  | some b=>exact .inr (fun e2=>by have:=(hl.lt b e).1;injection e2 with e2;omega))
 refine ⟨hx1,hx2,⟨hx1.set v',hx2.other (Ne.symm hne) v',hso hr1,hso hr2,hap⟩,?_,fun b hb hb1=>?_,?_,fun b0 hb0 hb0B=>?_⟩
 ·refine ((KeepsOthers.alloc W tmp).trans (KeepsOthers.of_grownBy hg fun j o ej hj=>?_)).trans (KeepsOthers.setCell _ _ _);obtain ⟨cur,fr,hb⟩:=SRow.block (World.ownsRow.alloc h.r1 tmp) ej;rw [hb] at hj;cases hj;rfl
 ·refine (Below.heap_setCell w1 ⟨b1,0,none⟩ v' b hb1).trans ?_;refine (hg.block b (by rw [hz];omega) (hnb hb)).trans ?_;exact Below.heap_alloc W tmp b (by omega)
 ·have e1:=hg.size;have e2:(w1.setCell ⟨b1,0,none⟩ v').heap.size = w1.heap.size:=World.size_setCell ..;omega
 ·exact (((Below.refl b0 W).alloc (by omega) tmp).grown hg (by omega) fun j ej=>Nat.le_trans hb0B (h.r1.lt j ej).1).setCell (p:=⟨b1,0,none⟩) hb0 _
theorem contains_any (B:Nat) (v:Value) (L:List DeclL) (n:List UInt8) (W:World) (h:SRow B v (L.map fun e=>str e.1) W) (hl:L.length <= 1048576) :
  Calls Tryz.prog 184 #[v,.string (str n)] W fun e W'=>e = .returned (.bool (hasN L n)) /\ W = W':=by
 rcases h.form with ⟨rfl,hn⟩ | ⟨g,cap,rfl,_,_,_,hc,_⟩
 ·have hL:L = []:=by simpa using hn
  subst hL;exact (Tryz.slices_Contains_string_empty _ _ _ _).mono fun e w' ⟨he,hw⟩=>⟨he,hw.symm⟩
 ·have f1:(L.map fun e=>str e.1).length <= 9223372036854775807:=by rw [List.length_map];omega
  have f2:∀ j,j < (L.map fun e=>str e.1).length -> W.cell? ⟨g,0 + j,none⟩ = some (.string ((L.map fun e=>str e.1).getD j ByteArray.empty)):=fun j hj=>by
   refine hc j _ ?_;rw [List.getD_eq_getElem?_getD,List.getElem?_eq_getElem hj];rfl
  have hh:=Tryz.slices_Contains_string g 0 (L.map fun e=>str e.1).length cap (L.map fun e=>str e.1) (str n) W (Nat.le_refl _) f1 f2
  have ee:Lib.containsS ((L.map fun e=>str e.1).take (L.map fun e=>str e.1).length) (str n) = hasN L n:=by
   rw [List.take_length];rw [Bool.eq_iff_iff,Lib.containsS_iff,hasN_iff];constructor
   ·intro hm;obtain ⟨e,he,hs⟩:=List.mem_map.1 hm;exact ⟨e,he,by rw [<- str_toList e.1,hs,str_toList]⟩
   ·rintro ⟨e,he,rfl⟩;exact List.mem_map.2 ⟨e,he,rfl⟩
  rw [ee] at hh;exact hh.mono fun e w' ⟨he,hw⟩=>⟨he,hw.symm⟩
theorem reverse_any (B b0:Nat) (v:Value) (l:List ByteArray) (W0 W:World) (h:SRow B v l W) (hl:l.length <= 1048576) (hb:Below b0 W0 W) (hB:b0 <= B) :
  Calls Tryz.prog 185 #[v] W fun e W'=>e = .returned (.tuple #[]) /\ Below b0 W0 W' /\ W'.heap.size = W.heap.size /\ (∀ b,v.ownBlock ≠ some b -> b < W.heap.size -> W'.heap[b]? = W.heap[b]?) /\
   ∀ g cap,v = .slice (some ⟨g,0,none⟩) l.length cap -> ∀ (j:Nat) x,l.reverse[j]? = some x -> W'.cell? ⟨g,0 + j,none⟩ = some (.string x):=by
 rcases h.form with ⟨rfl,hn⟩ | ⟨g,cap,rfl,_,hg,hlt,hc,hf⟩
 ·refine (Tryz.slices_Reverse_string_empty _ _ _).mono fun e w' ⟨he,hw⟩=>?_
  subst hw;exact ⟨he,hb,rfl,fun _ _ _=>rfl,fun g cap e=>by cases e⟩
 ·refine (Tryz.slices_Reverse_string_cells g 0 l.length cap (fun i=>l.getD i ByteArray.empty) W (by omega) (fun i hi=>hc i _ (by rw [List.getD_eq_getElem?_getD,List.getElem?_eq_getElem hi];rfl)) (fun j _=>hf j)).mono fun e w' ⟨he,q,hw⟩=>?_
  subst hw
  have hvs:(Lib.strsOf (fun i=>l.getD i ByteArray.empty) l.length).reverse.map encStr = (l.reverse).map Value.string:=by
   unfold Lib.strsOf;rw [<- List.map_reverse,List.map_map]
   have:l.reverse = (List.range l.length).reverse.map fun i=>l.getD i ByteArray.empty:=by
    rw [List.map_reverse]
    congr 1
    apply List.ext_getElem
    ·simp
    ·intro i h1 h2;simp [List.getD_eq_getElem?_getD,List.getElem?_eq_getElem h1]
   rw [this,List.map_map];apply List.map_congr_left;intro i _;show Value.string ⟨(l.getD i ByteArray.empty).data.toList.toArray⟩ = Value.string (l.getD i ByteArray.empty)
   exact congrArg Value.string (str_of _)
  rw [hvs]
  have hsz:∀ (vs:List Value) (o:Nat) (w:World),(w.setCells g o vs).heap.size = w.heap.size:=by
   intro vs
   induction vs with
   | nil=>intro o w;rfl
   | cons v r ih=>intro o w;rw [World.setCells,ih];exact World.size_setCell ..
  have hsz:=fun o=>hsz ((l.reverse).map Value.string) o (W.drewN q)
  have hb':Below b0 W0 (W.drewN q):=⟨hb.os,hb.tape,hb.output,hb.size,hb.block⟩
  refine ⟨he,below_setCells (Nat.le_trans hB hg) _ _ _ hb',?_,fun b hne hbl=>?_,fun g' cap' e j x hj=>?_⟩
  ·exact (hsz _).trans rfl
  ·exact World.heap_setCells_other (W.drewN q) g _ _ hbl (fun e=>hne (by rw [e];rfl))
  ·injection e with e1 e2 e3;injection e1 with e1;injection e1 with e1;subst e1;have hjl:j < ((l.reverse).map Value.string).length:=by rw [List.length_map];exact (List.getElem?_eq_some_iff.1 hj).1
   have:=World.cell?_setCells_in g ((l.reverse).map Value.string) 0 (W.drewN q) (fun i hi=>by
    rw [List.length_map,List.length_reverse] at hi;have:=hc i (l[i]) (by rw [List.getElem?_eq_getElem hi]);show (W.cell? _).isSome = true
    rw [this];rfl) j hjl
   rw [this];have hx:=(List.getElem?_eq_some_iff.1 hj).2;simp only [List.getElem_map,hx]
end Go.Proofs.YtmgpmdfmkdhfgaaGreatDoor
namespace Go.Proofs.YtmgpmdfmkdhfgaaGreatDoor
open Go.RowKit
set_option linter.unusedVariables false
set_option linter.unusedSimpArgs false
set_option maxRecDepth 100000
set_option maxHeartbeats 16000000
def allMark (m l:List UInt8):Bool:=l.all (markB m)
def knownB (n:List UInt8):Bool:=cssNames.contains n
theorem allPlain_any (s m:ByteArray) (w:World) (hs:s.size <= maxLen) :
  Calls Tryz.prog 154 #[.string s,.string m] w fun e w'=>e = .returned (.bool (allMark m.data.toList s.data.toList)) /\ w = w':=by
 unfold maxLen at hs;go_enter Tryz.func154,Tryz.ntmps154;go_wp2_with fail;go_loop [8] (fun i=>∃ k:Nat,k <= s.size /\ i = .int .i64 k /\ Hid (allMark m.data.toList (s.data.toList.drop k) = allMark m.data.toList s.data.toList)) (fun i=>s.size - (intOf i).toNat)
 case atStart=>exact ⟨0,Nat.zero_le _,rfl,hide (by rw [List.drop_zero])⟩
 case round =>
  obtain ⟨k,hk,rfl,HD⟩:=hrel
  by_cases hlt:k < s.size
  ·have hd:=HD.out;unfold allMark at hd;rw [drop_cons s k hlt,List.all_cons] at hd;cases hm:markB m.data.toList s[k] with
   | true =>
    rw [hm,Bool.true_and] at hd;have HD2:Hid (allMark m.data.toList (s.data.toList.drop (k + 1)) = allMark m.data.toList s.data.toList):=hide hd;have HM:=hide hm;clear hd hm;go_wp2_with fail;refine (asciiPlain_any _ _ _).mono ?_;rintro e w1 ⟨rfl,rfl⟩;rw [HM.out];go_wp2_with fail;go_round
    case rel=>exact ⟨k + 1,by omega,by go_num,HD2⟩
    case measure=>simp [intOf];omega
   | false =>
    rw [hm,Bool.false_and] at hd;have HD2:Hid (allMark m.data.toList s.data.toList = false):=hide hd.symm;have HM:=hide hm;clear hd hm;go_wp2_with fail;refine (asciiPlain_any _ _ _).mono ?_;rintro e w1 ⟨rfl,rfl⟩;rw [HM.out];go_wp2_with fail;go_ret;exact ⟨ret_bool HD2.out.symm,rfl⟩
  ·have hd:=HD.out;rw [drop_nil s k (by omega)] at hd;have HD2:Hid (allMark m.data.toList s.data.toList = true):=hide hd.symm;clear hd;go_wp2_with fail;go_ret;exact ⟨ret_bool HD2.out.symm,rfl⟩
def EnvC (w:World):Prop:=∀ j:Nat,j < 38 -> w.cell? ⟨6,j,none⟩ = some (.string (str (cssNames.getD j [])))
theorem EnvC.kept {w w':World} (h:EnvC w) (hb:Below w.heap.size w w'):EnvC w':=fun j hj =>
 (hb.cell (p:=⟨6,j,none⟩) (World.block_lt_of_cell? _ _ (h j hj))).trans (h j hj)
theorem idx38 (nm:Nat -> ByteArray) (k:Nat) (h:k < 38) (w:World):(Instr.index 271 (Value.agg #[.string (nm 0),.string (nm 1),.string (nm 2),.string (nm 3),.string (nm 4),.string (nm 5),.string (nm 6),.string (nm 7),.string (nm 8),.string (nm 9),.string (nm 10),.string (nm 11),.string (nm 12),.string (nm 13),.string (nm 14),.string (nm 15),.string (nm 16),.string (nm 17),.string (nm 18),.string (nm 19),.string (nm 20),.string (nm 21),.string (nm 22),.string (nm 23),.string (nm 24),.string (nm 25),.string (nm 26),.string (nm 27),.string (nm 28),.string (nm 29),.string (nm 30),.string (nm 31),.string (nm 32),.string (nm 33),.string (nm 34),.string (nm 35),.string (nm 36),.string (nm 37)]) (.int .i64 k)).run Tryz.prog w = .ok (.string (nm k)) w:=by
 obtain rfl | rfl | rfl | rfl | rfl | rfl | rfl | rfl | rfl | rfl | rfl | rfl | rfl | rfl | rfl | rfl | rfl | rfl | rfl | rfl | rfl | rfl | rfl | rfl | rfl | rfl | rfl | rfl | rfl | rfl | rfl | rfl | rfl | rfl | rfl | rfl | rfl | rfl:k = 0 \/ k = 1 \/ k = 2 \/ k = 3 \/ k = 4 \/ k = 5 \/ k = 6 \/ k = 7 \/ k = 8 \/ k = 9 \/ k = 10 \/ k = 11 \/ k = 12 \/ k = 13 \/ k = 14 \/ k = 15 \/ k = 16 \/ k = 17 \/ k = 18 \/ k = 19 \/ k = 20 \/ k = 21 \/ k = 22 \/ k = 23 \/ k = 24 \/ k = 25 \/ k = 26 \/ k = 27 \/ k = 28 \/ k = 29 \/ k = 30 \/ k = 31 \/ k = 32 \/ k = 33 \/ k = 34 \/ k = 35 \/ k = 36 \/ k = 37:=by omega
 all_goals rfl
theorem beq_nm {a:ByteArray} {l:List UInt8} (s:ByteArray) (h:a = str l):(a.toList == s.toList) = decide (l = s.data.toList):=by
 rw [h,str_list,bytes_list,Bool.eq_iff_iff,beq_iff_eq,decide_eq_true_eq]
theorem cssNames_len:cssNames.length = 38:=by decide
theorem known_no {t:List UInt8} (h:∀ j,j < 38 -> cssNames.getD j [] ≠ t):cssNames.contains t = false:=by
 rw [Bool.eq_false_iff];intro hc;have hm:t ∈ cssNames:=by simpa using hc
 obtain ⟨j,hj,e⟩:=List.mem_iff_getElem.1 hm;refine h j (by rw [<- cssNames_len];exact hj) ?_;rw [List.getD_eq_getElem?_getD,List.getElem?_eq_getElem hj,<- e];rfl
theorem known_yes {t:List UInt8} {j:Nat} (hj:j < 38) (h:cssNames.getD j [] = t):cssNames.contains t = true:=by
 have hj':j < cssNames.length:=by rw [cssNames_len];exact hj
 rw [List.getD_eq_getElem?_getD,List.getElem?_eq_getElem hj'] at h;have:t ∈ cssNames:=by rw [<- h];exact List.getElem_mem hj'
 simpa using this
theorem isKnown_any (s:ByteArray) (w:World) (hE:EnvC w) :
  Calls Tryz.prog 203 #[.string s] w fun e w'=>e = .returned (.bool (knownB s.data.toList)) /\ w = w':=by
 obtain ⟨nm,hnm⟩:∃ nm:Nat -> ByteArray,∀ k,nm k = str (cssNames.getD k []):=⟨_,fun _=>rfl⟩
 obtain ⟨Z,hZ⟩:∃ Z:List Value,Z = [.string (nm 0),.string (nm 1),.string (nm 2),.string (nm 3),.string (nm 4),.string (nm 5),.string (nm 6),.string (nm 7),.string (nm 8),.string (nm 9),.string (nm 10),.string (nm 11),.string (nm 12),.string (nm 13),.string (nm 14),.string (nm 15),.string (nm 16),.string (nm 17),.string (nm 18),.string (nm 19),.string (nm 20),.string (nm 21),.string (nm 22),.string (nm 23),.string (nm 24),.string (nm 25),.string (nm 26),.string (nm 27),.string (nm 28),.string (nm 29),.string (nm 30),.string (nm 31),.string (nm 32),.string (nm 33),.string (nm 34),.string (nm 35),.string (nm 36),.string (nm 37)]:=⟨_,rfl⟩
 have hZ2:Z = (List.range 38).map fun j=>Value.string (nm j):=by rw [hZ];rfl
 have HRG:Hid (w.rangeAt 6 0 Z):=hide (by
  intro j v hv;rw [Nat.zero_add];rw [hZ2] at hv;have hj:j < 38:=by have:=(List.getElem?_eq_some_iff.1 hv).1;simpa using this
  rw [List.getElem?_map,List.getElem?_range hj] at hv;have e:=Option.some.inj hv;subst e;show _ = some (Value.string (nm j))
  rw [hnm];exact hE j hj)
 have HIX:Hid (∀ k:Nat,k < 38 -> ∀ w,(Instr.index 271 (Value.agg Z.toArray) (.int .i64 k)).run Tryz.prog w = .ok (.string (nm k)) w):=hide (fun k hk w=>by rw [hZ];exact idx38 nm k hk w);have HZI:Hid ((Tryz.prog.info? 271).map (·.size) = some Z.length):=hide (by rw [hZ];kernel_rfl);have HNM:=hide hnm;clear hnm hZ hZ2 hE;go_enter Tryz.func203,Tryz.ntmps203;go_wp2_with (refine wpList_load_mid rfl _ _ rfl 6 0 rfl Z _ HRG.out Tryz.underlying271 rfl HZI.out ?_);go_loop [6] (fun i=>∃ k:Nat,k <= 38 /\ i = .int .i64 k /\ Hid (∀ j,j < k -> cssNames.getD j [] ≠ s.data.toList)) (fun i=>38 - (intOf i).toNat)
 case atStart=>exact ⟨0,by omega,rfl,hide (fun j hj=>absurd hj (Nat.not_lt_zero _))⟩
 case round =>
  obtain ⟨k,hk,rfl,HF⟩:=hrel
  by_cases hlt:k < 38
  ·have hix:=HIX.out k hlt w;have hbe:=beq_nm s (HNM.out k)
   by_cases he:cssNames.getD k [] = s.data.toList
   ·have HR:Hid (knownB s.data.toList = true):=hide (known_yes hlt he);rw [decide_eq_true he] at hbe;clear he;go_wp2_with fail;go_ret;exact ⟨ret_bool HR.out.symm,rfl⟩
   ·have HF2:Hid (∀ j,j < k + 1 -> cssNames.getD j [] ≠ s.data.toList):=hide (fun j hj=>by
     rcases Nat.lt_or_ge j k with h | h
     ·exact HF.out j h
     ·have:j = k:=by omega
      rw [this];exact he)
    rw [decide_eq_false he] at hbe;clear he;go_wp2_with fail;go_round
    case rel=>exact ⟨k + 1,by omega,by go_num,HF2⟩
    case measure=>simp [intOf];omega
  ·have HR:Hid (knownB s.data.toList = false):=hide (known_no (fun j hj=>HF.out j (by omega)));go_wp2_with fail;go_ret;exact ⟨ret_bool HR.out.symm,rfl⟩
theorem cssSafe_any (n v:ByteArray) (w:World) (hE:EnvC w) (hv:v.size <= maxLen) :
  Calls Tryz.prog 183 #[.string n,.string v] w fun e w'=>e = .returned (.bool (safeD (n.data.toList,v.data.toList))) /\ w = w':=by
 have hvs:=hv;unfold maxLen at hv;obtain ⟨B,hB⟩:∃ B,safeD (n.data.toList,v.data.toList) = B:=⟨_,rfl⟩
 rw [hB];cases hk:cssNames.contains n.data.toList with
 | false =>
  have hb:B = false:=by rw [<- hB];unfold safeD;simp only;rw [hk];rfl
  subst hb;have HK:Hid (knownB n.data.toList = false):=hide hk;clear hk hB;go_enter Tryz.func183,Tryz.ntmps183;go_wp2_with fail;refine (isKnown_any n _ hE).mono ?_;rintro e w1 ⟨rfl,rfl⟩;rw [HK.out];go_wp2_with fail;go_ret;exact ⟨rfl,rfl⟩
 | true =>
  have HK:Hid (knownB n.data.toList = true):=hide hk
  by_cases he:v.data.toList = []
  ·have hb:B = false:=by rw [<- hB];unfold safeD;simp only;rw [he];simp
   subst hb;have t0:v.toList.isEmpty = true:=by rw [bytes_list,he];rfl
   clear hk hB he;go_enter Tryz.func183,Tryz.ntmps183;go_wp2_with fail;refine (isKnown_any n _ hE).mono ?_;rintro e w1 ⟨rfl,rfl⟩;rw [HK.out];go_wp2_with fail;go_ret;exact ⟨rfl,rfl⟩
  have hne:v.data.toList.isEmpty = false:=by
   cases h:v.data.toList with
   | nil=>exact absurd h he
   | cons _ _=>rfl
  have t0:v.toList.isEmpty = false:=by rw [bytes_list];exact hne
  by_cases h100:v.size <= 100
  ·have t1:decide ((v.size:Int) <= 100) = true:=decide_eq_true (by omega)
   have HA:Hid (allMark (⟨#[32,35,46,37,44,45,43,33]⟩:ByteArray).data.toList v.data.toList = B):=hide (by
    rw [<- hB];unfold safeD;simp only;rw [hk,hne,toList_length,decide_eq_true h100];rfl)
   clear hk hB he hne;go_enter Tryz.func183,Tryz.ntmps183;go_wp2_with fail;refine (isKnown_any n _ hE).mono ?_;rintro e w1 ⟨rfl,rfl⟩;rw [HK.out];go_wp2_with fail;refine (allPlain_any v _ _ hvs).mono ?_;rintro e w1 ⟨rfl,rfl⟩;rw [HA.out];go_wp2_with fail;go_ret;exact ⟨rfl,rfl⟩
  ·have hb:B = false:=by rw [<- hB];unfold safeD;simp only;rw [toList_length,decide_eq_false h100];simp
   subst hb;have t1:decide ((v.size:Int) <= 100) = false:=decide_eq_false (by omega);clear hk hB he hne;go_enter Tryz.func183,Tryz.ntmps183;go_wp2_with fail;refine (isKnown_any n _ hE).mono ?_;rintro e w1 ⟨rfl,rfl⟩;rw [HK.out];go_wp2_with fail;go_ret;exact ⟨rfl,rfl⟩
end Go.Proofs.YtmgpmdfmkdhfgaaGreatDoor
namespace Go.Proofs.YtmgpmdfmkdhfgaaGreatDoor
open Go.RowKit Go.Shelf
set_option linter.unusedVariables false
set_option linter.unusedSimpArgs false
set_option maxRecDepth 100000
attribute [local go_sem] Oper.semAt_some
def namesR (pre:List IdxL):List ByteArray:=(lastR pre).map fun e=>str e.1
def showsR (pre:List IdxL):List ByteArray:=(lastR pre).map fun e=>str (showD e)
theorem namesR_len (pre:List IdxL):(namesR pre).length = (lastR pre).length:=List.length_map _
theorem showsR_len (pre:List IdxL):(showsR pre).length = (lastR pre).length:=List.length_map _
theorem info_strK:(Tryz.prog.info? 9).map (fun i=>(i.zero,i.size,i.bytes)) = some (some (.string ByteArray.empty),1,16):=by kernel_rfl
def HeapKept (b B:Nat) (W W':World):Prop:=∀ k,k < B -> k ≠ b -> k ≠ b + 1 -> W'.heap[k]? = W.heap[k]?
theorem HeapKept.refl (b B:Nat) (W:World):HeapKept b B W W:=fun _ _ _ _=>rfl
theorem HeapKept.trans {b B:Nat} {U V W:World} (h:HeapKept b B U V) (k:HeapKept b B V W):HeapKept b B U W:=fun j h1 h2 h3=>(k j h1 h2 h3).trans (h j h1 h2 h3)
theorem HeapKept.rows {b B g Bn:Nat} {W W':World} (h:HeapKept b B W W') (hg:g < B) (hg1:b + 1 < g) (hb:Bn < B) (hb1:b + 1 < Bn):RowKept g Bn W W':=by
 refine ⟨fun o=>?_,?_⟩
 ·unfold World.cell?;simp only;rw [h g hg (by omega) (by omega)]
 ·unfold World.cell?;simp only;rw [h Bn hb (by omega) (by omega)]
theorem DBuf.decls {B:Nat} {A:Option Addr} {c k:Nat} {D:List DeclL} {W0 w:World} (h:DBuf B (.slice A k c) D W0 w) (hl:D ≠ []):∃ g,A = some ⟨g,0,none⟩ /\ B <= g /\ g < w.heap.size /\ DeclsAt g D w:=by
 obtain ⟨g,cap,e,hg⟩:=h.form hl;injection e with e1 e2 e3;subst e1;refine ⟨g,rfl,hg,(h.1.lt g rfl).2,fun j hj=>?_⟩;have hx:D[j]? = some D[j]:=List.getElem?_eq_getElem hj;obtain ⟨a1,a2⟩:=declVals_at hx;have c1:=h.1.cells (g:=g) rfl _ _ a1;have c2:=h.1.cells (g:=g) rfl _ _ a2;rw [Addr.add_lit,Nat.zero_add] at c1 c2;exact ⟨c1,c2⟩
structure CleanI (b B:Nat) (w W0:World) (pre:List IdxL) (W:World):Prop where
  two:∃ v1 v2,TwoRows b (b + 1) B v1 v2 (namesR pre) (showsR pre) W
  kept:HeapKept b B W0 W
  below:Below b w W
  size:B <= W.heap.size
theorem cleanI_own {b B:Nat} {w W0:World} (hb:b <= w.heap.size) (hB:b + 1 < B):OwnFrom B (CleanI b B w W0):=by
 rintro pre W W' row ⟨⟨v1,v2,h2⟩,hk,hbl,hs⟩ hg hr;refine ⟨⟨v1,v2,h2.grown hg fun r e=>(hr r e).2⟩,hk.trans fun k hk1 _ _=>?_,?_,Nat.le_trans hs hg.size⟩
 ·refine hg.block k (by omega) (fun e=>?_);have:=(hr k e.symm).1;omega
 ·exact ownFrom_below (β:=Unit) (B:=B) hb (by omega) () W W' row hbl hg hr
def CleanA (B:Nat) (mk:Nat -> Act) (x:IdxL) (a':Act) (W:World):Prop:=∃ Bx,B <= Bx /\ W.heap[Bx]? = some (.cells #[.string (str x.2.1),.string (str x.2.2)] 142 (0,0)) /\ a' = mk Bx
theorem cleanA_own (B:Nat) (mk:Nat -> Act) (x:IdxL) (a':Act):OwnFrom B (fun (_:Unit) W=>CleanA B mk x a' W):=by
 rintro _ W W' row ⟨Bx,h1,h2,h3⟩ hg hr;refine ⟨Bx,h1,(hg.block Bx (lt_of_block h2) (fun e=>?_)).trans h2,h3⟩;obtain ⟨_,o,ho,hc⟩:=hr Bx e.symm;rw [h2] at ho;injection ho with ho;subst ho;cases hc
theorem show_str (a b:List UInt8):(str a ++ ⟨#[58]⟩ ++ ⟨#[32]⟩ ++ str b:ByteArray) = str (showD (a,b)):=by
 show str a ++ str [58] ++ str [32] ++ str b = _
 rw [<- str_append,<- str_append,<- str_append];unfold showD
 congr 1
 simp
theorem joinR_any (B:Nat) (v:Value) (l:List ByteArray) (W W5:World) (h:SRow B v l W) (hz:W5.heap.size = W.heap.size) (hc:∀ g cap,v = .slice (some ⟨g,0,none⟩) l.length cap -> ∀ (j:Nat) x,l.reverse[j]? = some x -> W5.cell? ⟨g,0 + j,none⟩ = some (.string x)) (L:List DeclL) (hL:l.reverse = L.map fun e=>str (showD e)) (hn:(joinD L).length <= 140737488355328) (hl:l.length <= 1048576) :
  Calls Tryz.prog 186 #[v,.string ⟨#[59,32]⟩] W5 fun e W'=>e = .returned (.string (str (joinD L))) /\ Below W5.heap.size W5 W':=by
 rcases h.form with ⟨rfl,hnil⟩ | ⟨g,cap,rfl,hcp,_,hlt,_,_⟩
 ·subst hnil;have:L = []:=by simpa using hL.symm
  subst this;exact (Tryz.strings_Join_none _ _ _ _).mono fun e w' ⟨he,hw⟩=>⟨he,by rw [hw];exact Below.refl _ _⟩
 ·have hm:(l.reverse).map (·.data.toList) = L.map showD:=by
   rw [hL,List.map_map];exact List.map_congr_left fun e _=>str_toList _
  have hj:Lib.join ((l.reverse).map (·.data.toList)) (⟨#[59,32]⟩:ByteArray).data.toList = joinD L:=by rw [hm];exact join_show L
  have hh:=Tryz.strings_Join g 0 cap l.reverse ⟨#[59,32]⟩ W5 (hc g cap rfl) (by omega) (by rw [List.length_reverse];omega) (by rw [List.length_reverse];omega) (by rw [hj];exact hn);rw [hj,List.length_reverse] at hh;exact hh
set_option maxHeartbeats 4000000 in
theorem clean_in (n : Nat) (hn : 4 ≤ n) (s : ByteArray) (hs : s.size ≤ 1048575) (w : World) (hE : EnvC w) :
    CallsIn Fence.wide n Tryz.prog 152 #[.string s] w fun e W' => e = .returned (.string (str (cleanD s.data.toList))) ∧ Below w.heap.size w W' := by
  have h1 : 1 ≤ n := by omega
  obtain ⟨i0, hi, hz0, hz1, hz2⟩ := info_parts info_strK
  obtain ⟨D, hD⟩ : ∃ D, cutD s.data.toList = D := ⟨_, rfl⟩
  have hw := cutD_weight s.data.toList
  rw [hD, toList_length] at hw
  have hDl : D.length ≤ 1048576 := by have := declW_len D; omega
  unfold cleanD
  rw [hD]
  refine callsIn_of_wp_marks Tryz.func152 rfl trivial ?_ rfl
  simp only [Tryz.ntmps152, List.size_toArray, List.length_cons, List.length_nil, Nat.reduceAdd, Nat.reduceSub, Array.replicate_succ, Array.replicate_zero, List.push_toArray, List.append_toArray, List.nil_append, List.cons_append]
  gi_wp2
  refine ⟨trivial, (callsIn_wide.2 (cssCut_any s _ hs)).mono ?_⟩
  rintro e w3 ⟨v, rfl, hd⟩
  rw [hD] at hd
  obtain ⟨A, c, rfl⟩ := hd.slice_len
  gi_wp2
  refine ⟨trivial, (back_in (n - 1) (by omega) A D.length c _).mono ?_⟩
  rintro e w' ⟨rfl, rfl⟩
  gi_wp2
  have b1 := (Boxed.new w 33 (.slice none 0 0)).alloc (.cells #[.slice none 0 0] 33)
  have b2 := Boxed.new (w.alloc (.cells #[.slice none 0 0] 33)) 33 (.slice none 0 0)
  have hB2 : Below w.heap.size w ((w.alloc (.cells #[.slice none 0 0] 33)).alloc (.cells #[.slice none 0 0] 33)) := ((Below.refl _ w).alloc (Nat.le_refl _) _).alloc (by simp) _
  have hz2 : ((w.alloc (.cells #[.slice none 0 0] 33)).alloc (.cells #[.slice none 0 0] 33)).heap.size = w.heap.size + 2 := by simp
  rw [World.size_alloc] at b2
  obtain ⟨w2, hw2⟩ : ∃ w2, (w.alloc (.cells #[.slice none 0 0] 33)).alloc (.cells #[.slice none 0 0] 33) = w2 := ⟨_, rfl⟩
  rw [hw2] at b1 b2 hB2 hz2 hd
  clear hw2
  have c1 : Boxed w3 w.heap.size 33 (.slice none 0 0) := (hd.below.block _ b1.lt).trans b1
  have c2 : Boxed w3 (w.heap.size + 1) 33 (.slice none 0 0) := (hd.below.block _ b2.lt).trans b2
  have hB3 : Below w.heap.size w w3 := hB2.trans (hd.below.mono (by omega))
  have hz3 : w.heap.size + 2 ≤ w3.heap.size := by have := hd.2.2; omega
  have cB := Boxed.new w3 225 (.slice A D.length c)
  have hd1 := hd.alloc (.cells #[.slice A D.length c] 225)
  obtain ⟨g, hA, hg1, hg2, hDA⟩ : ∃ g, (D ≠ [] → A = some ⟨g, 0, none⟩) ∧ w.heap.size + 1 < g ∧ g < (w3.alloc (.cells #[.slice A D.length c] 225)).heap.size ∧ DeclsAt g D (w3.alloc (.cells #[.slice A D.length c] 225)) := by
    by_cases hl : D = []
    · exact ⟨w3.heap.size, fun h => absurd hl h, by omega, by simp, fun j hj => by rw [hl] at hj; cases hj⟩
    · obtain ⟨g, e, h1, h2, h3⟩ := hd1.decls hl
      exact ⟨g, fun _ => e, by omega, h2, h3⟩
  have d1 := c1.alloc (.cells #[.slice A D.length c] 225)
  have d2 := c2.alloc (.cells #[.slice A D.length c] 225)
  have hB0 : Below w.heap.size w (w3.alloc (.cells #[.slice A D.length c] 225)) := hB3.alloc (by omega) _
  have hz0' : (w3.alloc (.cells #[.slice A D.length c] 225)).heap.size = w3.heap.size + 1 := by simp
  obtain ⟨W0, hW0⟩ : ∃ W0, w3.alloc (.cells #[.slice A D.length c] 225) = W0 := ⟨_, rfl⟩
  rw [hW0] at cB hg2 hDA d1 d2 hB0 hz0' ⊢
  clear hW0 hd hd1 hz2 hB2 b1 b2 c1 c2 hB3
  refine wpIn_rangeFunc_ownH rfl h1 (gf := 201) (lb := #[.pointer (some ⟨w3.heap.size, 0, none⟩)]) rfl trivial (enters_of Tryz.func201 (by kernel_rfl) rfl)
    (back_stops (n - 1) (by omega) w3.heap.size g c A D hDl hA W0 (by omega) hg2 cB.cell hDA) RowKept.trans
    (fun W l o o' hl ho hc _ => HeapKept.rows (b := w.heap.size) (B := W0.heap.size) (fun k hk _ _ => World.putObj_heap_other (by omega)) hg2 hg1 (by omega) (by omega)) (Below.refl _ _) (fun _ => rfl)
    (fun pre W => CleanI w.heap.size W0.heap.size w W0 (pre.map (·.1)) W) (fun _ _ _ => False) (fun pre => cleanI_own (Nat.le_refl _) (by omega) (pre.map (·.1))) (fun _ _ _ _ _ hs _ _ => hs)
    ⟨⟨_, _, d1, d2, SRow.nil _ _, SRow.nil _ _, fun b hb => by cases hb⟩, HeapKept.refl _ _ _, hB0, Nat.le_refl _⟩
    (fun x : BackP D => CleanA W0.heap.size (fun Bx => { tmps := #[.string s, undef, .string ⟨#[]⟩, .pointer (some ⟨w.heap.size, 0, none⟩), .pointer (some ⟨w.heap.size + 1, 0, none⟩), undef, .pointer (some ⟨Bx, 0, none⟩), undef, undef, .string s, .slice A D.length c, .func (.func 201) #[] #[.pointer (some ⟨w3.heap.size, 0, none⟩)], .int .i64 x.1.1, .agg #[.string (str x.1.2.1), .string (str x.1.2.2)], undef, undef, undef, undef, undef, undef, undef, undef, undef, undef, undef, undef, undef, undef, undef, undef, undef, undef, undef, undef, undef, undef, undef, undef, undef, undef, undef, undef, undef], defers := [] }) x.1) (fun x a' => cleanA_own _ _ x.1 a')
    ?assign ?body ?done ?stop
  case assign =>
    rintro l pre x W K hI hK
    gi_wp2
    obtain ⟨⟨v1, v2, h2⟩, hk, hbl, hsz⟩ := hI
    have hkk : HeapKept w.heap.size W0.heap.size W (W.alloc (.cells #[.string (str x.1.2.1), .string (str x.1.2.2)] 142)) := fun k hk _ _ => Below.heap_alloc W _ k (by omega)
    refine hK _ _ ((KeepsOthers.alloc _ _).from _) (hkk.rows hg2 hg1 (by omega) (by omega)) ⟨⟨v1, v2, ?_⟩, hk.trans hkk, hbl.alloc hbl.size _, ?_⟩ ⟨W.heap.size, hsz, World.alloc_heap_new W _, rfl⟩
    · exact h2.grown (World.grownBy_alloc W _ none) (fun r e => by cases e)
    · simp; omega
  case body =>
    rintro l pre ⟨⟨ix, nm, vl⟩, hmem⟩ a' W hl ⟨r, hr⟩ hI ⟨Bx, hBx, bX, rfl⟩ hlt
    obtain ⟨⟨v1, v2, h2⟩, hk, hbl, hsz⟩ := hI
    have hmw := declW_mem hmem
    dsimp only at hmw bX ⊢
    have hpl : (pre.map (·.1)).length = pre.length := List.length_map ..
    have hR : List.map (·.1) (pre ++ [⟨(ix, nm, vl), hmem⟩]) = pre.map (·.1) ++ [(ix, nm, vl)] := by simp
    obtain ⟨Q, hQ⟩ : ∃ Q, pre.map (·.1) = Q := ⟨_, rfl⟩
    rw [hQ] at h2 hpl hR
    have HR := hide hR
    have hLL := lastR_len Q
    have hLn := namesR_len Q
    have hLs := showsR_len Q
    have HLn := hide hLn
    have HLs := hide hLs
    clear hR hQ hLn hLs
    have e0 : W.cell? ⟨Bx, 0, none⟩ = some (.string (str nm)) := by simp [World.cell?, bX]
    have e1 : W.cell? ⟨Bx, 1, none⟩ = some (.string (str vl)) := by simp [World.cell?, bX]
    have h1' : 1 ≤ n - 1 - 1 := by omega
    gi_wp2
    rename_i QQ KK aa
    have key : KK { tmps := #[.string s, undef, .string ⟨#[]⟩, .pointer (some ⟨w.heap.size, 0, none⟩), .pointer (some ⟨w.heap.size + 1, 0, none⟩), undef, .pointer (some ⟨Bx, 0, none⟩), .string (str nm), .string (str vl), .string s, .slice A D.length c, .func (.func 201) #[] #[.pointer (some ⟨w3.heap.size, 0, none⟩)], .int .i64 ix, .agg #[.string (str nm), .string (str vl)], .pointer (some ⟨Bx, 0, none⟩), .string (str nm), .pointer (some ⟨Bx, 1, none⟩), .string (str vl), undef, undef, undef, undef, undef, undef, undef, undef, undef, undef, undef, undef, undef, undef, undef, undef, undef, undef, undef, undef, undef, undef, undef, undef, undef], defers := [] } W.drew := by
      refine aa _ _ ?_
      clear aa
      have f2 : TwoRows w.heap.size (w.heap.size + 1) W0.heap.size v1 v2 (namesR Q) (showsR Q) W.drew := ⟨h2.x1, h2.x2, h2.r1, h2.r2, h2.ap⟩
      have fk : HeapKept w.heap.size W0.heap.size W0 W.drew := hk
      have fbl : Below w.heap.size w W.drew := hbl.drew
      have fsz : W0.heap.size ≤ W.drew.heap.size := hsz
      have fK : KeepsOthers W W.drew := ⟨Nat.le_refl _, fun k o hk ho => hk⟩
      have fKp : HeapKept w.heap.size W0.heap.size W W.drew := HeapKept.refl _ _ _
      obtain ⟨W1, hW1⟩ : ∃ W1, W.drew = W1 := ⟨_, rfl⟩
      rw [hW1] at f2 fk fbl fsz fK fKp ⊢
      clear hW1 e0 e1 bX h2 hk hbl hsz
      have hE1 : EnvC W1 := hE.kept fbl
      have hvz : (str vl).size ≤ maxLen := by unfold maxLen; rw [str_size]; omega
      have hx1 := f2.x1.cell
      cases hsf : safeD (nm, vl) with
      | false =>
        have HS : Hid (safeD ((str nm).data.toList, (str vl).data.toList) = false) := hide (by rw [str_toList, str_toList]; exact hsf)
        have hl2 := lastR_no1 (pre := Q) (x := (ix, nm, vl)) hsf
        clear hsf
        gi_wp2
        refine ⟨trivial, CallsIn.inRound l ((callsIn_wide.2 (cssSafe_any (str nm) (str vl) _ hE1 hvz)).mono ?_)⟩
        rintro e w' ⟨rfl, rfl⟩
        rw [HS.out]
        gi_wp2
        refine ⟨trivial, ?_⟩
        gi_wp2
        refine ⟨fK.from _, fKp.rows hg2 hg1 (by omega) (by omega), ?_⟩
        show CleanI _ _ _ _ (List.map (fun x : BackP D => x.1) _) _
        rw [HR.out]
        refine ⟨⟨v1, v2, ?_⟩, fk, fbl, fsz⟩
        unfold namesR showsR
        rw [hl2]
        exact f2
      | true =>
        have HS : Hid (safeD ((str nm).data.toList, (str vl).data.toList) = true) := hide (by rw [str_toList, str_toList]; exact hsf)
        have HSF := hide hsf
        clear hsf
        obtain ⟨A1, cA1, rfl⟩ := f2.r1.slice_len
        gi_wp2
        refine ⟨trivial, CallsIn.inRound l ((callsIn_wide.2 (cssSafe_any (str nm) (str vl) _ hE1 hvz)).mono ?_)⟩
        rintro e w' ⟨rfl, rfl⟩
        rw [HS.out]
        gi_wp2
        refine ⟨trivial, CallsIn.inRound l ((callsIn_wide.2 (contains_any W0.heap.size _ (lastR Q) nm _ f2.r1 (by omega))).mono ?_)⟩
        rintro e w' ⟨rfl, rfl⟩
        cases hhn : hasN (lastR Q) nm with
        | true =>
          have hl2 := lastR_no2 (pre := Q) (x := (ix, nm, vl)) hhn
          clear hhn
          gi_wp2
          refine ⟨fK.from _, fKp.rows hg2 hg1 (by omega) (by omega), ?_⟩
          show CleanI _ _ _ _ (List.map (fun x : BackP D => x.1) _) _
          rw [HR.out]
          refine ⟨?_, fk, fbl, fsz⟩
          unfold namesR showsR
          rw [hl2]
          exact ⟨_, v2, f2⟩
        | false =>
          have hl2 := lastR_yes (pre := Q) (x := (ix, nm, vl)) HSF.out hhn
          clear hhn
          have hr1 : W1.ownsRow W0.heap.size 9 1 _ (namesR Q).length (strVals (namesR Q)) := f2.r1
          have hnl : (namesR Q).length + 1 ≤ 1048577 := by rw [HLn.out]; omega
          have hnl2 : (showsR Q).length + 1 ≤ 1048577 := by rw [HLs.out]; omega
          have HM1 : Hid ((namesR Q).length + 1 ≤ maxLen ∧ ((namesR Q).length + 1) * 16 ≤ 140737488355328) := hide (by unfold maxLen; omega)
          have HM2 : Hid ((showsR Q).length + 1 ≤ maxLen ∧ ((showsR Q).length + 1) * 16 ≤ 140737488355328) := hide (by unfold maxLen; omega)
          have HZ1 : Hid (W0.heap.size ≤ (W1.alloc (.cells #[.string (str nm)] 9)).heap.size) := hide (by rw [World.size_alloc]; omega)
          obtain ⟨A2, cA2, rfl⟩ := f2.r2.slice_len
          have hbw : w.heap.size + 1 < W0.heap.size := by omega
          have z1 : (str nm).size ≤ 1048576 := by rw [str_size]; omega
          have z2 : (str vl).size ≤ 1048576 := by rw [str_size]; omega
          gi_wp2_with (gi_at_builtin; first
            | (refine wpListIn_append_own_at _ rfl _ _ 33 rfl W0.heap.size 9 i0 (.string ByteArray.empty) 1 16 Tryz.underlying33 hi hz0 hz1 hz2 rfl (by decide) _ _ _ rfl (hr1.alloc _) ⟨W1.heap.size, 0, none⟩ 1 1 [.string (str nm)] rfl rfl (cell_one_new _ _ _) (by simp [Value.oneCell']) HM1.out.1 HM1.out.2 HZ1.out ?_
               intro v' w5 hown' hgrow _ hat
               obtain ⟨g', cap', rfl⟩ := ownsRow_succ hown'
               obtain ⟨q1, q2, q3, q4, q5, q6, q7⟩ := f2.app (b1 := w.heap.size) (b2 := w.heap.size + 1) (by omega) (by omega) (by omega) fsz hown' hgrow hat
               have hc1 := q1.cell
               have hf1 := q1.frozen
               have hc2 := q2.cell
               have hr2 : (w5.setCell ⟨w.heap.size, 0, none⟩ (.slice (some ⟨g', 0, none⟩) ((namesR Q).length + 1) cap')).ownsRow W0.heap.size 9 1 _ (showsR Q).length (strVals (showsR Q)) := q3.r2
               have hz6 : W0.heap.size ≤ (w5.setCell ⟨w.heap.size, 0, none⟩ (.slice (some ⟨g', 0, none⟩) ((namesR Q).length + 1) cap')).heap.size := by omega
               have e5 : (w5.setCell ⟨w.heap.size, 0, none⟩ (.slice (some ⟨g', 0, none⟩) ((namesR Q).length + 1) cap')).heap.size = w5.heap.size := World.size_setCell ..
               have hz7 : W0.heap.size ≤ w5.heap.size := by rw [← e5]; exact hz6
               have h9 := cell_one_new (w5.setCell ⟨w.heap.size, 0, none⟩ (.slice (some ⟨g', 0, none⟩) ((namesR Q).length + 1) cap')) (.string (str nm ++ ⟨#[58]⟩ ++ ⟨#[32]⟩ ++ str vl)) 9
               rw [e5] at h9
               have H9 := hide h9
               have HR2 := hide hr2
               have HQ3 := hide q3
               have HQ4 := hide q4
               have HQ5 := hide q5
               have HZ6 := hide hz6
               have HQ7 := hide q7
               have HZ2 : Hid (W0.heap.size ≤ ((w5.setCell ⟨w.heap.size, 0, none⟩ (.slice (some ⟨g', 0, none⟩) ((namesR Q).length + 1) cap')).alloc (.cells #[.string (str nm ++ ⟨#[58]⟩ ++ ⟨#[32]⟩ ++ str vl)] 9)).heap.size) := hide (by rw [World.size_alloc]; omega)
               clear h9 hr2 q3 q4 q5 q6 q7 hat hgrow hown' q1 q2 e5 hz6 hz7)
            | (refine wpListIn_append_own_at _ rfl _ _ 33 rfl W0.heap.size 9 i0 (.string ByteArray.empty) 1 16 Tryz.underlying33 hi hz0 hz1 hz2 rfl (by decide) _ _ _ rfl (HR2.out.alloc _) ⟨w5.heap.size, 0, none⟩ 1 1 [.string (str nm ++ ⟨#[58]⟩ ++ ⟨#[32]⟩ ++ str vl)] rfl rfl H9.out (by simp [Value.oneCell']) HM2.out.1 HM2.out.2 HZ2.out ?_
               intro v'' w6 hown'' hgrow'' _ hat''
               obtain ⟨g'', cap'', rfl⟩ := ownsRow_succ hown''
               obtain ⟨p1, p2, p3, p4, p5, p6, p7⟩ := HQ3.out.symm.app (b1 := w.heap.size + 1) (b2 := w.heap.size) (by omega) (by omega) (by omega) HZ6.out hown'' hgrow'' hat''
               have hc3 := p1.cell
               have hf3 := p1.frozen))
          have hX : (str nm ++ ⟨#[58]⟩ ++ ⟨#[32]⟩ ++ str vl : ByteArray) = str (showD (nm, vl)) := show_str nm vl
          rw [hX] at p3
          have hkk : HeapKept w.heap.size W0.heap.size W1 _ := (show HeapKept w.heap.size W0.heap.size W1 _ from fun k h1 h2 _ => HQ5.out k h1 h2).trans (fun k h1 _ h3 => p5 k h1 h3)
          refine ⟨((fK.trans HQ4.out).trans p4).from _, (fKp.trans hkk).rows hg2 hg1 (by omega) (by omega), ?_⟩
          show CleanI _ _ _ _ (List.map (fun x : BackP D => x.1) _) _
          rw [HR.out]
          refine ⟨?_, fk.trans hkk, (fbl.trans (HQ7.out _ (Nat.le_refl _) (by omega))).trans (p7 _ (by omega) (by omega)), Nat.le_trans HZ6.out p6⟩
          unfold namesR showsR
          rw [hl2, List.map_append, List.map_append]
          exact ⟨_, _, p3.symm⟩
    gi_region <;> exact key
  case done =>
    rintro Dm ys W hDm hys hI hK
    have hI' : CleanI w.heap.size W0.heap.size w W0 (backN D D.length) W := by rw [← hys]; exact hI
    obtain ⟨⟨v1, v2, h2⟩, hk, hbl, hsz⟩ := hI'
    have hsh : (showsR (backN D D.length)).reverse = (lastD D).map fun e => str (showD e) := by
      unfold showsR
      rw [lastR_back, ← List.map_reverse, List.reverse_reverse]
    have hsl : (showsR (backN D D.length)).length ≤ 1048576 := by
      have h8 := congrArg List.length hsh
      rw [List.length_reverse, List.length_map] at h8
      have := (lastD_sub D).length_le
      omega
    have hjl : (joinD (lastD D)).length ≤ 140737488355328 := by
      have h8 := joinD_len (lastD D)
      have h9 := declW_sub (lastD_sub D)
      omega
    obtain ⟨R, hR⟩ : ∃ R, showsR (backN D D.length) = R := ⟨_, rfl⟩
    rw [hR] at h2 hsh hsl
    have HSH := hide hsh
    have HJL := hide hjl
    have hKlt := (Array.getElem?_eq_some_iff.1 hK).1
    have hne : v2.ownBlock ≠ some Dm := fun e => by
      obtain ⟨cur, fr, h8⟩ := h2.r2.block e
      rw [hK] at h8; cases h8
    have hne1 : v2.ownBlock ≠ some (w.heap.size + 1) := fun e => by have := (h2.r2.lt _ e).1; omega
    obtain ⟨A2, cA2, rfl⟩ := h2.r2.slice_len
    have hc := h2.x2.cell
    clear hsh hjl hR hI hys
    gi_wp2
    refine ⟨trivial, (callsIn_wide.2 (reverse_any W0.heap.size w.heap.size _ R w W h2.r2 hsl hbl (by omega))).mono ?_⟩
    rintro e W5 ⟨rfl, r1, r2, r3, r4⟩
    have hx5 : Boxed W5 (w.heap.size + 1) 33 (.slice A2 R.length cA2) := (r3 _ hne1 h2.x2.lt).trans h2.x2
    have hK5 : W5.heap[Dm]? = some (.deferred (some [])) := (r3 Dm hne hKlt).trans hK
    have hc5 := hx5.cell
    gi_wp2
    refine ⟨trivial, (callsIn_wide.2 (joinR_any W0.heap.size _ R W W5 h2.r2 r2 r4 (lastD D) HSH.out HJL.out hsl)).mono ?_⟩
    rintro e W6 ⟨rfl, hb6⟩
    have hK6 : W6.heap[Dm]? = some (.deferred (some [])) := (hb6.block Dm (by omega)).trans hK5
    gi_wp2
    refine ⟨by simp, .inl ⟨_, _, rfl, run_takeDeferred hK6, ?_⟩⟩
    exact ⟨_, results_tmp rfl _ _ _, rfl, (r1.trans (hb6.mono r1.size)).trans (belowK_b (w := w) (Nat.le_refl _) W6 Dm _ _ (by omega) hK6 rfl rfl)⟩
  case stop =>
    rintro Dm cc pre W _ _ h _
    exact h.elim
theorem cssClean_any (s:ByteArray) (hs:s.size <= 1048575) (w:World) (hE:EnvC w) :
  Calls Tryz.prog 152 #[.string s] w fun e W'=>e = .returned (.string (str (cleanD s.data.toList))) /\ Below w.heap.size w W' :=
 (callsIn_wide (n:=4)).1 (clean_in 4 (by omega) s hs w hE)
end Go.Proofs.YtmgpmdfmkdhfgaaGreatDoor
namespace Go.Proofs.YtmgpmdfmkdhfgaaGreatDoor
open Go.RowKit
set_option linter.unusedVariables false
set_option linter.unusedSimpArgs false
set_option maxRecDepth 100000
set_option maxHeartbeats 16000000
def nilS:Value:=.slice none 0 0
theorem zero_rep:Tryz.zeroCells206.toList = List.replicate 257 nilS:=by kernel_rfl
def RepSt (w0:World) (R G:Nat) (c34 c92:Value) (l:Nat) (x y:ByteArray) (wr:World):Prop :=
  Below w0.heap.size w0 wr /\ w0.heap.size <= R /\ w0.heap.size <= G /\ R ≠ G /\
  (∀ i:Nat,i < 256 -> wr.cell? ⟨R,i,none⟩ = some (if i = 34 then c34 else if i = 92 then c92 else nilS)) /\ (∀ i:Nat,wr.frozen? ⟨R,i,none⟩ = false) /\
  wr.cell? ⟨R,256,none⟩ = some (.slice (some ⟨G,0,none⟩) l 2) /\ wr.cell? ⟨G,0,none⟩ = some (.string x) /\ wr.cell? ⟨G,1,none⟩ = some (.string y) /\ (∀ i:Nat,wr.frozen? ⟨G,i,none⟩ = false)
def TwoAt (w:World) (g:Nat) (x y:Int) (B:Nat):Prop:=w.cell? ⟨g,0,none⟩ = some (.int .u8 x) /\ w.cell? ⟨g,1,none⟩ = some (.int .u8 y) /\ B + 2 <= g
theorem ne_off {g i j:Nat} (h:i ≠ j):(⟨g,i,none⟩:Addr) ≠ ⟨g,j,none⟩:=fun e=>h (by injection e)
theorem ne_blk {g g' i j:Nat} (h:g ≠ g'):(⟨g,i,none⟩:Addr) ≠ ⟨g',j,none⟩:=fun e=>h (by injection e)
section
variable {w0 wr:World} {R G l:Nat} {c34 c92:Value} {x y:ByteArray}
theorem RepSt.ltR (h:RepSt w0 R G c34 c92 l x y wr):R < wr.heap.size:=World.block_lt_of_cell? wr _ h.2.2.2.2.2.2.1
theorem RepSt.ltG (h:RepSt w0 R G c34 c92 l x y wr):G < wr.heap.size:=World.block_lt_of_cell? wr _ h.2.2.2.2.2.2.2.1
theorem RepSt.below (h:RepSt w0 R G c34 c92 l x y wr):Below w0.heap.size w0 wr:=h.1
theorem RepSt.setG0 (h:RepSt w0 R G c34 c92 l x y wr) (x':ByteArray):RepSt w0 R G c34 c92 l x' y (wr.setCell ⟨G,0,none⟩ (.string x')):=by
 obtain ⟨B0,hR,hG,hne,hc,hf,h256,hG0,hG1,hfG⟩:=h
 exact ⟨B0.setCell hG _,hR,hG,hne,fun i hi=>(World.cell?_setCell_other _ _ _ _ (ne_blk hne.symm)).trans (hc i hi),fun i=>by rw [World.frozen?_setCell];exact hf i,
  (World.cell?_setCell_other _ _ _ _ (ne_blk hne.symm)).trans h256,World.cell?_setCell_same _ _ _ hG0,(World.cell?_setCell_other _ _ _ _ (ne_off (by decide))).trans hG1,fun i=>by rw [World.frozen?_setCell];exact hfG i⟩
theorem RepSt.setG1 (h:RepSt w0 R G c34 c92 l x y wr) (y':ByteArray):RepSt w0 R G c34 c92 l x y' (wr.setCell ⟨G,1,none⟩ (.string y')):=by
 obtain ⟨B0,hR,hG,hne,hc,hf,h256,hG0,hG1,hfG⟩:=h
 exact ⟨B0.setCell hG _,hR,hG,hne,fun i hi=>(World.cell?_setCell_other _ _ _ _ (ne_blk hne.symm)).trans (hc i hi),fun i=>by rw [World.frozen?_setCell];exact hf i,
  (World.cell?_setCell_other _ _ _ _ (ne_blk hne.symm)).trans h256,(World.cell?_setCell_other _ _ _ _ (ne_off (by decide))).trans hG0,World.cell?_setCell_same _ _ _ hG1,fun i=>by rw [World.frozen?_setCell];exact hfG i⟩
theorem RepSt.setL (h:RepSt w0 R G c34 c92 l x y wr) (l':Nat):RepSt w0 R G c34 c92 l' x y (wr.setCell ⟨R,256,none⟩ (.slice (some ⟨G,0,none⟩) l' 2)):=by
 obtain ⟨B0,hR,hG,hne,hc,hf,h256,hG0,hG1,hfG⟩:=h
 exact ⟨B0.setCell hR _,hR,hG,hne,fun i hi=>(World.cell?_setCell_other _ _ _ _ (ne_off (by omega))).trans (hc i hi),fun i=>by rw [World.frozen?_setCell];exact hf i,
  World.cell?_setCell_same _ _ _ h256,(World.cell?_setCell_other _ _ _ _ (ne_blk hne)).trans hG0,(World.cell?_setCell_other _ _ _ _ (ne_blk hne)).trans hG1,fun i=>by rw [World.frozen?_setCell];exact hfG i⟩
theorem RepSt.kept {w':World} (h:RepSt w0 R G c34 c92 l x y wr) (hb:Below wr.heap.size wr w'):RepSt w0 R G c34 c92 l x y w':=by
 have lR:=h.ltR;have lG:=h.ltG;obtain ⟨B0,hR,hG,hne,hc,hf,h256,hG0,hG1,hfG⟩:=h
 exact ⟨B0.trans (hb.mono (Nat.le_of_lt (Nat.lt_of_le_of_lt hR lR))),hR,hG,hne,fun i hi=>(hb.cell (p:=⟨R,i,none⟩) lR).trans (hc i hi),fun i=>(hb.frozen (p:=⟨R,i,none⟩) lR).trans (hf i),
  (hb.cell (p:=⟨R,256,none⟩) lR).trans h256,(hb.cell (p:=⟨G,0,none⟩) lG).trans hG0,(hb.cell (p:=⟨G,1,none⟩) lG).trans hG1,fun i=>(hb.frozen (p:=⟨G,i,none⟩) lG).trans (hfG i)⟩
theorem RepSt.alloc (h:RepSt w0 R G c34 c92 l x y wr) (o:Obj):RepSt w0 R G c34 c92 l x y (wr.alloc o):=h.kept ((Below.refl _ wr).alloc (Nat.le_refl _) _)
end
theorem TwoAt.set {w:World} {g B:Nat} {x y:Int} (h:TwoAt w g x y B) {p:Addr} (hp:p.block ≠ g) (v:Value):TwoAt (w.setCell p v) g x y B :=
 ⟨(World.cell?_setCell_other _ _ _ _ (fun e=>hp (by rw [e]))).trans h.1,(World.cell?_setCell_other _ _ _ _ (fun e=>hp (by rw [e]))).trans h.2.1,h.2.2⟩
theorem TwoAt.kept {w w':World} {g B:Nat} {x y:Int} (h:TwoAt w g x y B) (hb:Below w.heap.size w w'):TwoAt w' g x y B:=by
 have lg:g < w.heap.size:=World.block_lt_of_cell? w _ h.1;exact ⟨(hb.cell (p:=⟨g,0,none⟩) lg).trans h.1,(hb.cell (p:=⟨g,1,none⟩) lg).trans h.2.1,h.2.2⟩
theorem TwoAt.alloc {w:World} {g B:Nat} {x y:Int} (h:TwoAt w g x y B) (o:Obj):TwoAt (w.alloc o) g x y B:=h.kept ((Below.refl _ w).alloc (Nat.le_refl _) _)
def RepEnd (w0:World) (R:Nat) (wr:World):Prop :=
  ∃ G g1 c1 g2 c2:Nat,RepSt w0 R G (.slice (some ⟨g1,0,none⟩) 2 c1) (.slice (some ⟨g2,0,none⟩) 2 c2) 2 ⟨#[92]⟩ ⟨#[34]⟩ wr /\ TwoAt wr g1 92 34 w0.heap.size /\ TwoAt wr g2 92 92 w0.heap.size
theorem RepEnd.below {w0 wr:World} {R:Nat} (h:RepEnd w0 R wr):Below w0.heap.size w0 wr:=by obtain ⟨_,_,_,_,_,h,_⟩:=h;exact h.below
theorem RepEnd.kept {w0 wr w':World} {R:Nat} (h:RepEnd w0 R wr) (hb:Below wr.heap.size wr w'):RepEnd w0 R w':=by
 obtain ⟨G,g1,c1,g2,c2,h,t1,t2⟩:=h;exact ⟨G,g1,c1,g2,c2,h.kept hb,t1.kept hb,t2.kept hb⟩
def RepAt (W:World) (b R:Nat) (wr:World):Prop :=
  ∃ G g1 c1 g2 c2:Nat,RepSt W R G (.slice (some ⟨g1,0,none⟩) 2 c1) (.slice (some ⟨g2,0,none⟩) 2 c2) 2 ⟨#[92]⟩ ⟨#[34]⟩ wr /\ TwoAt wr g1 92 34 0 /\ TwoAt wr g2 92 92 0 /\ W.heap.size <= b /\ b < R /\ b < G /\ b < g1 /\ b < g2
theorem RepEnd.at {W w0 wr:World} {R b:Nat} (h:RepEnd w0 R wr) (hb:Below W.heap.size W w0) (hW:W.heap.size <= b) (hl:b < w0.heap.size):RepAt W b R wr:=by
 obtain ⟨G,g1,c1,g2,c2,⟨B0,hR,hG,hr⟩,t1,t2⟩:=h;exact ⟨G,g1,c1,g2,c2,⟨hb.trans (B0.mono hb.size),Nat.le_trans hb.size hR,Nat.le_trans hb.size hG,hr⟩,⟨t1.1,t1.2.1,by have:=t1.2.2;omega⟩,⟨t2.1,t2.2.1,by have:=t2.2.2;omega⟩,hW,by omega,by omega,by have:=t1.2.2;omega,by have:=t2.2.2;omega⟩
theorem RepAt.below {W wr:World} {b R:Nat} (h:RepAt W b R wr):Below W.heap.size W wr:=by obtain ⟨_,_,_,_,_,h,_⟩:=h;exact h.below
theorem RepAt.set {W wr:World} {b R:Nat} (h:RepAt W b R wr) (i:Nat) (v:Value):RepAt W b R (wr.setCell ⟨b,i,none⟩ v):=by
 obtain ⟨G,g1,c1,g2,c2,⟨B0,hR,hG,hne,hc,hf,h256,hG0,hG1,hfG⟩,t1,t2,hW,l1,l2,l3,l4⟩:=h;have nR:b ≠ R:=Nat.ne_of_lt l1;have nG:b ≠ G:=Nat.ne_of_lt l2
 exact ⟨G,g1,c1,g2,c2,⟨B0.setCell hW _,hR,hG,hne,fun j hj=>(World.cell?_setCell_other _ _ _ _ (ne_blk nR)).trans (hc j hj),fun j=>by rw [World.frozen?_setCell];exact hf j,
  (World.cell?_setCell_other _ _ _ _ (ne_blk nR)).trans h256,(World.cell?_setCell_other _ _ _ _ (ne_blk nG)).trans hG0,(World.cell?_setCell_other _ _ _ _ (ne_blk nG)).trans hG1,fun j=>by rw [World.frozen?_setCell];exact hfG j⟩,
  t1.set (p:=⟨b,i,none⟩) (Nat.ne_of_lt l3) v,t2.set (p:=⟨b,i,none⟩) (Nat.ne_of_lt l4) v,hW,l1,l2,l3,l4⟩
theorem RepAt.kept {W wr w':World} {b R:Nat} (h:RepAt W b R wr) (hb:Below wr.heap.size wr w'):RepAt W b R w':=by
 obtain ⟨G,g1,c1,g2,c2,h,t1,t2,hr⟩:=h;exact ⟨G,g1,c1,g2,c2,h.kept hb,t1.kept hb,t2.kept hb,hr⟩
theorem RepAt.drew {W wr:World} {b R:Nat} (h:RepAt W b R wr):RepAt W b R wr.drew:=h.kept ((Below.refl _ wr).drew)
theorem RepSt.start (w:World) (t1 t2:TypeId):RepSt w (w.heap.size + 1) w.heap.size nilS nilS 0 ⟨#[]⟩ ⟨#[]⟩
  ((w.alloc (.cells #[.string ⟨#[]⟩,.string ⟨#[]⟩] t1)).alloc (.cells (List.replicate 256 nilS ++ [Value.slice (some ⟨w.heap.size,0,none⟩) 0 2]).toArray t2)):=by
 have es:(w.alloc (.cells #[.string ⟨#[]⟩,.string ⟨#[]⟩] t1)).heap.size = w.heap.size + 1:=World.size_alloc ..;have lG:w.heap.size < (w.alloc (.cells #[.string ⟨#[]⟩,.string ⟨#[]⟩] t1)).heap.size:=by rw [es];omega
 refine ⟨((Below.refl _ w).alloc (Nat.le_refl _) _).alloc (Nat.le_of_lt lG) _,Nat.le_succ _,Nat.le_refl _,by omega,fun i hi=>?_,fun i=>?_,?_,?_,?_,fun i=>?_⟩
 ·rw [World.cell?_alloc_at _ _ _ _ es.symm,List.getElem?_toArray,List.getElem?_append_left (by rw [List.length_replicate];exact hi),List.getElem?_replicate,if_pos hi];simp
 ·exact World.frozen?_alloc_at _ _ _ _ es.symm
 ·rw [World.cell?_alloc_at _ _ _ _ es.symm,List.getElem?_toArray,List.getElem?_append_right (by rw [List.length_replicate];exact Nat.le_refl _),List.length_replicate];rfl
 ·rw [World.cell?_alloc_past _ _ _ lG,World.cell?_alloc_at _ _ _ _ rfl];rfl
 ·rw [World.cell?_alloc_past _ _ _ lG,World.cell?_alloc_at _ _ _ _ rfl];rfl
 ·rw [World.frozen?_alloc_past _ _ _ lG];exact World.frozen?_alloc_at _ _ _ _ rfl
def OldNewT (g:Nat) (w:World):Prop :=
  w.cell? ⟨g,0,none⟩ = some (.string ⟨#[9]⟩) /\ w.cell? ⟨g,1,none⟩ = some (.string ⟨#[]⟩) /\ w.cell? ⟨g,2,none⟩ = some (.string ⟨#[10]⟩) /\ w.cell? ⟨g,3,none⟩ = some (.string ⟨#[]⟩) /\ w.cell? ⟨g,4,none⟩ = some (.string ⟨#[13]⟩) /\ w.cell? ⟨g,5,none⟩ = some (.string ⟨#[]⟩)
def EmptyV (v:Value):Prop:=∃ g c:Nat,v = .slice (some ⟨g,0,none⟩) 0 c
def TagSt (w0:World) (R G:Nat) (v9 v10 v13:Value) (l:Nat) (x y z:ByteArray) (wr:World):Prop :=
  Below w0.heap.size w0 wr /\ w0.heap.size <= R /\ w0.heap.size <= G /\ R ≠ G /\
  (∀ i:Nat,i < 256 -> wr.cell? ⟨R,i,none⟩ = some (if i = 9 then v9 else if i = 10 then v10 else if i = 13 then v13 else nilS)) /\ (∀ i:Nat,wr.frozen? ⟨R,i,none⟩ = false) /\
  wr.cell? ⟨R,256,none⟩ = some (.slice (some ⟨G,0,none⟩) l 3) /\ wr.cell? ⟨G,0,none⟩ = some (.string x) /\ wr.cell? ⟨G,1,none⟩ = some (.string y) /\ wr.cell? ⟨G,2,none⟩ = some (.string z) /\ (∀ i:Nat,wr.frozen? ⟨G,i,none⟩ = false)
section
variable {w0 wr:World} {R G l:Nat} {v9 v10 v13:Value} {x y z:ByteArray}
theorem TagSt.ltR (h:TagSt w0 R G v9 v10 v13 l x y z wr):R < wr.heap.size:=World.block_lt_of_cell? wr _ h.2.2.2.2.2.2.1
theorem TagSt.ltG (h:TagSt w0 R G v9 v10 v13 l x y z wr):G < wr.heap.size:=World.block_lt_of_cell? wr _ h.2.2.2.2.2.2.2.1
theorem TagSt.below (h:TagSt w0 R G v9 v10 v13 l x y z wr):Below w0.heap.size w0 wr:=h.1
theorem TagSt.setG0 (h:TagSt w0 R G v9 v10 v13 l x y z wr) (x':ByteArray):TagSt w0 R G v9 v10 v13 l x' y z (wr.setCell ⟨G,0,none⟩ (.string x')):=by
 obtain ⟨B0,hR,hG,hne,hc,hf,h256,hG0,hG1,hG2,hfG⟩:=h
 exact ⟨B0.setCell hG _,hR,hG,hne,fun i hi=>(World.cell?_setCell_other _ _ _ _ (ne_blk hne.symm)).trans (hc i hi),fun i=>by rw [World.frozen?_setCell];exact hf i,
  (World.cell?_setCell_other _ _ _ _ (ne_blk hne.symm)).trans h256,World.cell?_setCell_same _ _ _ hG0,(World.cell?_setCell_other _ _ _ _ (ne_off (by decide))).trans hG1,(World.cell?_setCell_other _ _ _ _ (ne_off (by decide))).trans hG2,fun i=>by rw [World.frozen?_setCell];exact hfG i⟩
theorem TagSt.setG1 (h:TagSt w0 R G v9 v10 v13 l x y z wr) (y':ByteArray):TagSt w0 R G v9 v10 v13 l x y' z (wr.setCell ⟨G,1,none⟩ (.string y')):=by
 obtain ⟨B0,hR,hG,hne,hc,hf,h256,hG0,hG1,hG2,hfG⟩:=h
 exact ⟨B0.setCell hG _,hR,hG,hne,fun i hi=>(World.cell?_setCell_other _ _ _ _ (ne_blk hne.symm)).trans (hc i hi),fun i=>by rw [World.frozen?_setCell];exact hf i,
  (World.cell?_setCell_other _ _ _ _ (ne_blk hne.symm)).trans h256,(World.cell?_setCell_other _ _ _ _ (ne_off (by decide))).trans hG0,World.cell?_setCell_same _ _ _ hG1,(World.cell?_setCell_other _ _ _ _ (ne_off (by decide))).trans hG2,fun i=>by rw [World.frozen?_setCell];exact hfG i⟩
theorem TagSt.setG2 (h:TagSt w0 R G v9 v10 v13 l x y z wr) (z':ByteArray):TagSt w0 R G v9 v10 v13 l x y z' (wr.setCell ⟨G,2,none⟩ (.string z')):=by
 obtain ⟨B0,hR,hG,hne,hc,hf,h256,hG0,hG1,hG2,hfG⟩:=h
 exact ⟨B0.setCell hG _,hR,hG,hne,fun i hi=>(World.cell?_setCell_other _ _ _ _ (ne_blk hne.symm)).trans (hc i hi),fun i=>by rw [World.frozen?_setCell];exact hf i,
  (World.cell?_setCell_other _ _ _ _ (ne_blk hne.symm)).trans h256,(World.cell?_setCell_other _ _ _ _ (ne_off (by decide))).trans hG0,(World.cell?_setCell_other _ _ _ _ (ne_off (by decide))).trans hG1,World.cell?_setCell_same _ _ _ hG2,fun i=>by rw [World.frozen?_setCell];exact hfG i⟩
theorem TagSt.setL (h:TagSt w0 R G v9 v10 v13 l x y z wr) (l':Nat):TagSt w0 R G v9 v10 v13 l' x y z (wr.setCell ⟨R,256,none⟩ (.slice (some ⟨G,0,none⟩) l' 3)):=by
 obtain ⟨B0,hR,hG,hne,hc,hf,h256,hG0,hG1,hG2,hfG⟩:=h
 exact ⟨B0.setCell hR _,hR,hG,hne,fun i hi=>(World.cell?_setCell_other _ _ _ _ (ne_off (by omega))).trans (hc i hi),fun i=>by rw [World.frozen?_setCell];exact hf i,
  World.cell?_setCell_same _ _ _ h256,(World.cell?_setCell_other _ _ _ _ (ne_blk hne)).trans hG0,(World.cell?_setCell_other _ _ _ _ (ne_blk hne)).trans hG1,(World.cell?_setCell_other _ _ _ _ (ne_blk hne)).trans hG2,fun i=>by rw [World.frozen?_setCell];exact hfG i⟩
theorem TagSt.set9 (h:TagSt w0 R G v9 v10 v13 l x y z wr) (v:Value):TagSt w0 R G v v10 v13 l x y z (wr.setCell ⟨R,9,none⟩ v):=by
 obtain ⟨B0,hR,hG,hne,hc,hf,h256,hG0,hG1,hG2,hfG⟩:=h
 refine ⟨B0.setCell hR _,hR,hG,hne,fun i hi=>?_,fun i=>by rw [World.frozen?_setCell];exact hf i,
  (World.cell?_setCell_other _ _ _ _ (ne_off (by decide))).trans h256,(World.cell?_setCell_other _ _ _ _ (ne_blk hne)).trans hG0,(World.cell?_setCell_other _ _ _ _ (ne_blk hne)).trans hG1,(World.cell?_setCell_other _ _ _ _ (ne_blk hne)).trans hG2,fun i=>by rw [World.frozen?_setCell];exact hfG i⟩
 by_cases e:i = 9
 ·subst e;exact World.cell?_setCell_same _ _ _ (hc 9 hi)
 ·refine (World.cell?_setCell_other _ _ _ _ (ne_off (Ne.symm e))).trans ?_;rw [hc i hi];simp only [e,if_false]
theorem TagSt.set10 (h:TagSt w0 R G v9 v10 v13 l x y z wr) (v:Value):TagSt w0 R G v9 v v13 l x y z (wr.setCell ⟨R,10,none⟩ v):=by
 obtain ⟨B0,hR,hG,hne,hc,hf,h256,hG0,hG1,hG2,hfG⟩:=h
 refine ⟨B0.setCell hR _,hR,hG,hne,fun i hi=>?_,fun i=>by rw [World.frozen?_setCell];exact hf i,
  (World.cell?_setCell_other _ _ _ _ (ne_off (by decide))).trans h256,(World.cell?_setCell_other _ _ _ _ (ne_blk hne)).trans hG0,(World.cell?_setCell_other _ _ _ _ (ne_blk hne)).trans hG1,(World.cell?_setCell_other _ _ _ _ (ne_blk hne)).trans hG2,fun i=>by rw [World.frozen?_setCell];exact hfG i⟩
 by_cases e:i = 10
 ·subst e;exact World.cell?_setCell_same _ _ _ (hc 10 hi)
 ·refine (World.cell?_setCell_other _ _ _ _ (ne_off (Ne.symm e))).trans ?_;rw [hc i hi];simp only [e,if_false]
theorem TagSt.set13 (h:TagSt w0 R G v9 v10 v13 l x y z wr) (v:Value):TagSt w0 R G v9 v10 v l x y z (wr.setCell ⟨R,13,none⟩ v):=by
 obtain ⟨B0,hR,hG,hne,hc,hf,h256,hG0,hG1,hG2,hfG⟩:=h
 refine ⟨B0.setCell hR _,hR,hG,hne,fun i hi=>?_,fun i=>by rw [World.frozen?_setCell];exact hf i,
  (World.cell?_setCell_other _ _ _ _ (ne_off (by decide))).trans h256,(World.cell?_setCell_other _ _ _ _ (ne_blk hne)).trans hG0,(World.cell?_setCell_other _ _ _ _ (ne_blk hne)).trans hG1,(World.cell?_setCell_other _ _ _ _ (ne_blk hne)).trans hG2,fun i=>by rw [World.frozen?_setCell];exact hfG i⟩
 by_cases e:i = 13
 ·subst e;exact World.cell?_setCell_same _ _ _ (hc 13 hi)
 ·refine (World.cell?_setCell_other _ _ _ _ (ne_off (Ne.symm e))).trans ?_;rw [hc i hi];simp only [e,if_false]
theorem TagSt.kept {w':World} (h:TagSt w0 R G v9 v10 v13 l x y z wr) (hb:Below wr.heap.size wr w'):TagSt w0 R G v9 v10 v13 l x y z w':=by
 have lR:=h.ltR;have lG:=h.ltG;obtain ⟨B0,hR,hG,hne,hc,hf,h256,hG0,hG1,hG2,hfG⟩:=h
 exact ⟨B0.trans (hb.mono (Nat.le_of_lt (Nat.lt_of_le_of_lt hR lR))),hR,hG,hne,fun i hi=>(hb.cell (p:=⟨R,i,none⟩) lR).trans (hc i hi),fun i=>(hb.frozen (p:=⟨R,i,none⟩) lR).trans (hf i),
  (hb.cell (p:=⟨R,256,none⟩) lR).trans h256,(hb.cell (p:=⟨G,0,none⟩) lG).trans hG0,(hb.cell (p:=⟨G,1,none⟩) lG).trans hG1,(hb.cell (p:=⟨G,2,none⟩) lG).trans hG2,fun i=>(hb.frozen (p:=⟨G,i,none⟩) lG).trans (hfG i)⟩
theorem TagSt.alloc (h:TagSt w0 R G v9 v10 v13 l x y z wr) (o:Obj):TagSt w0 R G v9 v10 v13 l x y z (wr.alloc o):=h.kept ((Below.refl _ wr).alloc (Nat.le_refl _) _)
end
def TagEnd (w0:World) (R:Nat) (wr:World):Prop :=
  ∃ (G:Nat) (v9 v10 v13:Value),EmptyV v9 /\ EmptyV v10 /\ EmptyV v13 /\ TagSt w0 R G v9 v10 v13 3 ⟨#[13]⟩ ⟨#[10]⟩ ⟨#[9]⟩ wr
theorem TagEnd.below {w0 wr:World} {R:Nat} (h:TagEnd w0 R wr):Below w0.heap.size w0 wr:=by obtain ⟨_,_,_,_,_,_,_,h⟩:=h;exact h.below
def TagAt (W:World) (b R:Nat) (wr:World):Prop :=
  ∃ (G:Nat) (v9 v10 v13:Value),EmptyV v9 /\ EmptyV v10 /\ EmptyV v13 /\ TagSt W R G v9 v10 v13 3 ⟨#[13]⟩ ⟨#[10]⟩ ⟨#[9]⟩ wr /\ W.heap.size <= b /\ b < R /\ b < G
theorem TagEnd.at {W w0 wr:World} {R b:Nat} (h:TagEnd w0 R wr) (hb:Below W.heap.size W w0) (hW:W.heap.size <= b) (hl:b < w0.heap.size):TagAt W b R wr:=by
 obtain ⟨G,v9,v10,v13,e9,e10,e13,⟨B0,hR,hG,hr⟩⟩:=h;exact ⟨G,v9,v10,v13,e9,e10,e13,⟨hb.trans (B0.mono hb.size),Nat.le_trans hb.size hR,Nat.le_trans hb.size hG,hr⟩,hW,by omega,by omega⟩
theorem TagAt.below {W wr:World} {b R:Nat} (h:TagAt W b R wr):Below W.heap.size W wr:=by obtain ⟨_,_,_,_,_,_,_,h,_⟩:=h;exact h.below
theorem TagAt.set {W wr:World} {b R:Nat} (h:TagAt W b R wr) (i:Nat) (v:Value):TagAt W b R (wr.setCell ⟨b,i,none⟩ v):=by
 obtain ⟨G,v9,v10,v13,e9,e10,e13,⟨B0,hR,hG,hne,hc,hf,h256,hG0,hG1,hG2,hfG⟩,hW,l1,l2⟩:=h;have nR:b ≠ R:=Nat.ne_of_lt l1;have nG:b ≠ G:=Nat.ne_of_lt l2
 exact ⟨G,v9,v10,v13,e9,e10,e13,⟨B0.setCell hW _,hR,hG,hne,fun j hj=>(World.cell?_setCell_other _ _ _ _ (ne_blk nR)).trans (hc j hj),fun j=>by rw [World.frozen?_setCell];exact hf j,
  (World.cell?_setCell_other _ _ _ _ (ne_blk nR)).trans h256,(World.cell?_setCell_other _ _ _ _ (ne_blk nG)).trans hG0,(World.cell?_setCell_other _ _ _ _ (ne_blk nG)).trans hG1,(World.cell?_setCell_other _ _ _ _ (ne_blk nG)).trans hG2,fun j=>by rw [World.frozen?_setCell];exact hfG j⟩,
  hW,l1,l2⟩
theorem TagAt.kept {W wr w':World} {b R:Nat} (h:TagAt W b R wr) (hb:Below wr.heap.size wr w'):TagAt W b R w':=by
 obtain ⟨G,v9,v10,v13,e9,e10,e13,h,hr⟩:=h;exact ⟨G,v9,v10,v13,e9,e10,e13,h.kept hb,hr⟩
theorem TagAt.drew {W wr:World} {b R:Nat} (h:TagAt W b R wr):TagAt W b R wr.drew:=h.kept ((Below.refl _ wr).drew)
def NewAtT (b:Nat) (w:World):Prop :=
  w.cell? ⟨b,0,none⟩ = some (.int .u32 0) /\ w.cell? ⟨b,1,none⟩ = some (.int .i32 0) /\ w.cell? ⟨b,3,none⟩ = some .nilIface /\ (∀ i:Nat,w.frozen? ⟨b,i,none⟩ = false) /\ ∃ g c:Nat,w.cell? ⟨b,4,none⟩ = some (.slice (some ⟨g,0,none⟩) 6 c) /\ OldNewT g w /\ b ≠ g
theorem TagSt.start (w:World) (t1 t2:TypeId):TagSt w (w.heap.size + 1) w.heap.size nilS nilS nilS 0 ⟨#[]⟩ ⟨#[]⟩ ⟨#[]⟩
  ((w.alloc (.cells #[.string ⟨#[]⟩,.string ⟨#[]⟩,.string ⟨#[]⟩] t1)).alloc (.cells (List.replicate 256 nilS ++ [Value.slice (some ⟨w.heap.size,0,none⟩) 0 3]).toArray t2)):=by
 have es:(w.alloc (.cells #[.string ⟨#[]⟩,.string ⟨#[]⟩,.string ⟨#[]⟩] t1)).heap.size = w.heap.size + 1:=World.size_alloc ..;have lG:w.heap.size < (w.alloc (.cells #[.string ⟨#[]⟩,.string ⟨#[]⟩,.string ⟨#[]⟩] t1)).heap.size:=by rw [es];omega
 refine ⟨((Below.refl _ w).alloc (Nat.le_refl _) _).alloc (Nat.le_of_lt lG) _,Nat.le_succ _,Nat.le_refl _,by omega,fun i hi=>?_,fun i=>?_,?_,?_,?_,?_,fun i=>?_⟩
 ·rw [World.cell?_alloc_at _ _ _ _ es.symm,List.getElem?_toArray,List.getElem?_append_left (by rw [List.length_replicate];exact hi),List.getElem?_replicate,if_pos hi];simp
 ·exact World.frozen?_alloc_at _ _ _ _ es.symm
 ·rw [World.cell?_alloc_at _ _ _ _ es.symm,List.getElem?_toArray,List.getElem?_append_right (by rw [List.length_replicate];exact Nat.le_refl _),List.length_replicate];rfl
 iterate 3
  ·rw [World.cell?_alloc_past _ _ _ lG,World.cell?_alloc_at _ _ _ _ rfl];rfl
 ·rw [World.frozen?_alloc_past _ _ _ lG];exact World.frozen?_alloc_at _ _ _ _ rfl
theorem strT9:strOfNums [(((⟨#[9]⟩:ByteArray)[0]'(by decide)).toNat:Int)] = ⟨#[9]⟩:=nums_str (l:=[9]) rfl
theorem strT10:strOfNums [(((⟨#[10]⟩:ByteArray)[0]'(by decide)).toNat:Int)] = ⟨#[10]⟩:=nums_str (l:=[10]) rfl
theorem strT13:strOfNums [(((⟨#[13]⟩:ByteArray)[0]'(by decide)).toNat:Int)] = ⟨#[13]⟩:=nums_str (l:=[13]) rfl
theorem made_three (w:World):(Instr.makeSlice 33 (.int .i64 0) (.int .i64 3)).run Tryz.prog w = .ok (.slice (some ⟨w.heap.size,0,none⟩) 0 3) (w.alloc (.cells #[.string ⟨#[]⟩,.string ⟨#[]⟩,.string ⟨#[]⟩] 9)):=by
 obtain ⟨i0,hi,hz0,hz1,hz2⟩:=info_parts info_str;have h:=run_make (P:=Tryz.prog) w 33 9 i0 _ Tryz.underlying33 hi hz0 .i64 .i64 0 3 (by omega) (by omega) (by rw [hz2];omega) (by omega);rw [hz1] at h;rw [h]
 have e:madeCells (Value.string ByteArray.empty).cells (Int.toNat 3 * 1) = #[.string ⟨#[]⟩,.string ⟨#[]⟩,.string ⟨#[]⟩]:=by
  show madeCells #[.string ByteArray.empty] 3 = _
  have e0:Array.range 0 = (#[]:Array Nat):=by simp [Array.range]
  simp [madeCells,Array.range_succ,e0];rfl
 rw [e];rfl
theorem store_rep3 (w:World) (sl:Value) (h1:sl.oneCell' = true) :
  (storeCells ⟨w.heap.size,0,none⟩ (Tryz.zeroCells206.toList.set 256 sl) 0).run Tryz.prog (w.alloc (.cells Tryz.zeroCells206 206)) = .ok () (w.alloc (.cells (List.replicate 256 nilS ++ [sl]).toArray 206)):=by
 have e:Tryz.zeroCells206.toList.set 256 sl = List.replicate 256 nilS ++ [sl]:=by
  rw [zero_rep,show (257:Nat) = 256 + 1 from rfl,List.replicate_succ',List.set_append_right _ _ (by simp)];simp
 have hl:Tryz.zeroCells206.size = 257:=by rw [<- Array.length_toList,zero_rep,List.length_replicate]
 have h:=run_storeCells_new (P:=Tryz.prog) w 206 Tryz.zeroCells206 (List.replicate 256 nilS ++ [sl]).toArray (by
  rw [show (List.replicate 256 nilS ++ [sl]).toArray.size = 257 by simp];kernel_rfl) (by rw [hl];simp) (by
  rw [List.all_toArray,List.all_append,Bool.and_eq_true];exact ⟨by rw [List.all_replicate];rfl,by simp [h1]⟩)
 rw [e];exact h
theorem buildT_any (b g c:Nat) (w:World) (ho:w.cell? ⟨b,4,none⟩ = some (.slice (some ⟨g,0,none⟩) 6 c)) (hg:OldNewT g w) :
  Calls Tryz.prog 135 #[.pointer (some ⟨b,0,none⟩)] w fun e w'=>e = .returned (.iface 207 (.pointer (some ⟨w.heap.size + 1,0,none⟩))) /\ TagEnd w (w.heap.size + 1) w':=by
 obtain ⟨h0,h1,h2,h3,h4,h5⟩:=hg;have hgl:g < w.heap.size:=World.block_lt_of_cell? w _ h0;go_enter Tryz.func135,Tryz.ntmps135;go_wp2_with fail;go_loop [4,5] (fun a i=>(i = .int .i64 0 /\ a = .bool true) \/ (i = .int .i64 2 /\ a = .bool false) \/ (i = .int .i64 4 /\ a = .bool false) \/ (i = .int .i64 6 /\ a = .bool false)) (fun _ i=>6 - (intOf i).toNat)
 case atStart=>exact .inl ⟨rfl,rfl⟩
 case round =>
  rcases hrel with ⟨rfl,rfl⟩ | ⟨rfl,rfl⟩ | ⟨rfl,rfl⟩ | ⟨rfl,rfl⟩
  ·go_wp2_with fail;exact ⟨.inr (.inl ⟨rfl,rfl⟩),by decide⟩
  ·go_wp2_with fail;exact ⟨.inr (.inr (.inl ⟨rfl,rfl⟩)),by decide⟩
  ·go_wp2_with fail;exact ⟨.inr (.inr (.inr ⟨rfl,rfl⟩)),by decide⟩
  ·have hms:=made_three w;have hst:=store_rep3 (w.alloc (.cells #[.string ⟨#[]⟩,.string ⟨#[]⟩,.string ⟨#[]⟩] 9)) (.slice (some ⟨w.heap.size,0,none⟩) 0 3) rfl;rw [World.size_alloc] at hst;go_wp2_with fail
   go_loopw [12] (fun i wr=>(i = .int .i64 4 /\ Hid (TagSt w (w.heap.size + 1) w.heap.size nilS nilS nilS 0 ⟨#[]⟩ ⟨#[]⟩ ⟨#[]⟩ wr)) \/
    (i = .int .i64 2 /\ ∃ v13:Value,Hid (EmptyV v13 /\ TagSt w (w.heap.size + 1) w.heap.size nilS nilS v13 1 ⟨#[13]⟩ ⟨#[]⟩ ⟨#[]⟩ wr)) \/
    (i = .int .i64 0 /\ ∃ v10 v13:Value,Hid (EmptyV v10 /\ EmptyV v13 /\ TagSt w (w.heap.size + 1) w.heap.size nilS v10 v13 2 ⟨#[13]⟩ ⟨#[10]⟩ ⟨#[]⟩ wr)) \/
    (i = .int .i64 (-2) /\ Hid (∃ v9 v10 v13:Value,EmptyV v9 /\ EmptyV v10 /\ EmptyV v13 /\ TagSt w (w.heap.size + 1) w.heap.size v9 v10 v13 3 ⟨#[13]⟩ ⟨#[10]⟩ ⟨#[9]⟩ wr))) (fun i _=>(intOf i + 2).toNat)
   case atStart=>exact .inl ⟨rfl,hide (TagSt.start _ _ _)⟩
   case round =>
    rcases hrel with ⟨rfl,HS⟩ | ⟨rfl,v13,HS⟩ | ⟨rfl,v10,v13,HS⟩ | ⟨rfl,HS⟩
    ·have HT:=hide (HS.out);obtain ⟨B0,hR,hG,hne,hc,hf,h256,hG0,hG1,hG2,hfG⟩:=HT.out;have h92:wr.cell? ⟨w.heap.size + 1,((⟨#[13]⟩:ByteArray)[0]'(by decide)).toNat,none⟩ = some (.slice none 0 0):=hc 13 (by decide);have z92:wr.frozen? ⟨w.heap.size + 1,((⟨#[13]⟩:ByteArray)[0]'(by decide)).toNat,none⟩ = false:=hf 13;have z256:=hf 256;have hnil:∀ w1,(binOp .eql 58 (.slice none 0 0) (.slice none 0 0)).run Tryz.prog w1 = .ok (.bool true) w1:=fun w1=>Go.Lib.run_eql_slice_nil w1 58 5 none 0 0 0 0 Tryz.underlying58
     have hGl:w.heap.size < wr.heap.size:=World.block_lt_of_cell? wr _ hG0;have hRl:w.heap.size + 1 < wr.heap.size:=World.block_lt_of_cell? wr _ h256;have hggl:g < wr.heap.size:=Nat.lt_trans hgl hGl;have l1:=Nat.lt_succ_of_lt hGl;have l2:=Nat.lt_succ_of_lt l1;have l3:=Nat.lt_succ_of_lt hRl;have l4:=Nat.lt_succ_of_lt l3;have hcv:=conv1 wr (((⟨#[13]⟩:ByteArray)[0]'(by decide)).toNat:Int);have zG0:=hfG 0;have e2:wr.cell? ⟨g,4,none⟩ = some (.string ⟨#[13]⟩):=(B0.cell (p:=⟨g,4,none⟩) hgl).trans h4;have e3:wr.cell? ⟨g,5,none⟩ = some (.string ⟨#[]⟩):=(B0.cell (p:=⟨g,5,none⟩) hgl).trans h5;have HS1:=hide ((HT.out.setG0 ⟨#[13]⟩).setL 1);have e92:=strT13;clear hc hf hfG;go_wp2_with (refine wpList_bytes rfl _ rfl ⟨#[]⟩ rfl ?_;intro cap w5 ha;have HS5:=hide (((HS1.out.alloc _).alloc _).kept ha.below);clear ha;have k92:w5.cell? ⟨w.heap.size + 1,((⟨#[13]⟩:ByteArray)[0]'(by decide)).toNat,none⟩ = some (.slice none 0 0):=HS5.out.2.2.2.2.1 13 (by decide);have y92:w5.frozen? ⟨w.heap.size + 1,((⟨#[13]⟩:ByteArray)[0]'(by decide)).toNat,none⟩ = false:=HS5.out.2.2.2.2.2.1 13);exact ⟨.inr (.inl ⟨rfl,_,hide ⟨⟨_,_,rfl⟩,HS5.out.set13 _⟩⟩),by decide⟩
    ·have HT:=hide (HS.out.2);obtain ⟨B0,hR,hG,hne,hc,hf,h256,hG0,hG1,hG2,hfG⟩:=HT.out;have h92:wr.cell? ⟨w.heap.size + 1,((⟨#[10]⟩:ByteArray)[0]'(by decide)).toNat,none⟩ = some (.slice none 0 0):=hc 10 (by decide);have z92:wr.frozen? ⟨w.heap.size + 1,((⟨#[10]⟩:ByteArray)[0]'(by decide)).toNat,none⟩ = false:=hf 10;have z256:=hf 256;have hnil:∀ w1,(binOp .eql 58 (.slice none 0 0) (.slice none 0 0)).run Tryz.prog w1 = .ok (.bool true) w1:=fun w1=>Go.Lib.run_eql_slice_nil w1 58 5 none 0 0 0 0 Tryz.underlying58
     have hGl:w.heap.size < wr.heap.size:=World.block_lt_of_cell? wr _ hG0;have hRl:w.heap.size + 1 < wr.heap.size:=World.block_lt_of_cell? wr _ h256;have hggl:g < wr.heap.size:=Nat.lt_trans hgl hGl;have l1:=Nat.lt_succ_of_lt hGl;have l2:=Nat.lt_succ_of_lt l1;have l3:=Nat.lt_succ_of_lt hRl;have l4:=Nat.lt_succ_of_lt l3;have hcv:=conv1 wr (((⟨#[10]⟩:ByteArray)[0]'(by decide)).toNat:Int);have zG0:=hfG 1;have e2:wr.cell? ⟨g,2,none⟩ = some (.string ⟨#[10]⟩):=(B0.cell (p:=⟨g,2,none⟩) hgl).trans h2;have e3:wr.cell? ⟨g,3,none⟩ = some (.string ⟨#[]⟩):=(B0.cell (p:=⟨g,3,none⟩) hgl).trans h3;have HS1:=hide ((HT.out.setG1 ⟨#[10]⟩).setL 2);have e92:=strT10;clear hc hf hfG;go_wp2_with (refine wpList_bytes rfl _ rfl ⟨#[]⟩ rfl ?_;intro cap w5 ha;have HS5:=hide (((HS1.out.alloc _).alloc _).kept ha.below);clear ha;have k92:w5.cell? ⟨w.heap.size + 1,((⟨#[10]⟩:ByteArray)[0]'(by decide)).toNat,none⟩ = some (.slice none 0 0):=HS5.out.2.2.2.2.1 10 (by decide);have y92:w5.frozen? ⟨w.heap.size + 1,((⟨#[10]⟩:ByteArray)[0]'(by decide)).toNat,none⟩ = false:=HS5.out.2.2.2.2.2.1 10);exact ⟨.inr (.inr (.inl ⟨rfl,_,_,hide ⟨⟨_,_,rfl⟩,HS.out.1,HS5.out.set10 _⟩⟩)),by decide⟩
    ·have HT:=hide (HS.out.2.2);obtain ⟨B0,hR,hG,hne,hc,hf,h256,hG0,hG1,hG2,hfG⟩:=HT.out;have h92:wr.cell? ⟨w.heap.size + 1,((⟨#[9]⟩:ByteArray)[0]'(by decide)).toNat,none⟩ = some (.slice none 0 0):=hc 9 (by decide);have z92:wr.frozen? ⟨w.heap.size + 1,((⟨#[9]⟩:ByteArray)[0]'(by decide)).toNat,none⟩ = false:=hf 9;have z256:=hf 256;have hnil:∀ w1,(binOp .eql 58 (.slice none 0 0) (.slice none 0 0)).run Tryz.prog w1 = .ok (.bool true) w1:=fun w1=>Go.Lib.run_eql_slice_nil w1 58 5 none 0 0 0 0 Tryz.underlying58
     have hGl:w.heap.size < wr.heap.size:=World.block_lt_of_cell? wr _ hG0;have hRl:w.heap.size + 1 < wr.heap.size:=World.block_lt_of_cell? wr _ h256;have hggl:g < wr.heap.size:=Nat.lt_trans hgl hGl;have l1:=Nat.lt_succ_of_lt hGl;have l2:=Nat.lt_succ_of_lt l1;have l3:=Nat.lt_succ_of_lt hRl;have l4:=Nat.lt_succ_of_lt l3;have hcv:=conv1 wr (((⟨#[9]⟩:ByteArray)[0]'(by decide)).toNat:Int);have zG0:=hfG 2;have e2:wr.cell? ⟨g,0,none⟩ = some (.string ⟨#[9]⟩):=(B0.cell (p:=⟨g,0,none⟩) hgl).trans h0;have e3:wr.cell? ⟨g,1,none⟩ = some (.string ⟨#[]⟩):=(B0.cell (p:=⟨g,1,none⟩) hgl).trans h1;have HS1:=hide ((HT.out.setG2 ⟨#[9]⟩).setL 3);have e92:=strT9;clear hc hf hfG;go_wp2_with (refine wpList_bytes rfl _ rfl ⟨#[]⟩ rfl ?_;intro cap w5 ha;have HS5:=hide (((HS1.out.alloc _).alloc _).kept ha.below);clear ha;have k92:w5.cell? ⟨w.heap.size + 1,((⟨#[9]⟩:ByteArray)[0]'(by decide)).toNat,none⟩ = some (.slice none 0 0):=HS5.out.2.2.2.2.1 9 (by decide);have y92:w5.frozen? ⟨w.heap.size + 1,((⟨#[9]⟩:ByteArray)[0]'(by decide)).toNat,none⟩ = false:=HS5.out.2.2.2.2.2.1 9);exact ⟨.inr (.inr (.inr ⟨rfl,hide ⟨_,_,_,⟨_,_,rfl⟩,HS.out.1,HS.out.2.1,HS5.out.set9 _⟩⟩)),by decide⟩
    ·have HE:Hid (TagEnd w (w.heap.size + 1) wr):=hide ⟨_,HS.out⟩;go_wp2_with fail;go_ret;exact ⟨rfl,HE.out⟩
theorem race_off (w:World):(callFunc 206 #[]).run Tryz.prog w = .ok (.value (.tuple #[])) w:=run_call_mark0 Tryz.func206 (by kernel_rfl) (by kernel_rfl) (by kernel_rfl) .disable (by kernel_rfl) w
theorem race_on (w:World):(callFunc 208 #[]).run Tryz.prog w = .ok (.value (.tuple #[])) w:=run_call_mark0 Tryz.func208 (by kernel_rfl) (by kernel_rfl) (by kernel_rfl) .enable (by kernel_rfl) w
theorem race_got (a:Addr) (w:World):(callFunc 209 #[.pointer (some a)]).run Tryz.prog w = .ok (.value (.tuple #[])) w:=run_call_marked Tryz.func209 (by kernel_rfl) (by kernel_rfl) (by kernel_rfl) .acquire (by kernel_rfl) a w
theorem race_let (a:Addr) (w:World):(callFunc 211 #[.pointer (some a)]).run Tryz.prog w = .ok (.value (.tuple #[])) w:=run_call_marked Tryz.func211 (by kernel_rfl) (by kernel_rfl) (by kernel_rfl) .releaseMerge (by kernel_rfl) a w
theorem done_set (a:Addr) (x:Value) (u:FrameMode) (w:World) (hc:w.cell? a = some x) (hz:w.frozen? a = false) :
  CallsD Tryz.prog 161 #[.pointer (some a),.bool true] u w fun e u' w'=>u' = u /\ (e = .returned (.tuple #[]) /\ w' = w.drew.setCell a (.int .u32 1)):=by
 have hc':w.drew.cell? a = some x:=by go_simp
 have hz':w.drew.frozen? a = false:=by go_simp
 have hst:=run_call_store (P:=Tryz.prog) Tryz.func190 (by kernel_rfl) (by kernel_rfl) (by kernel_rfl) (by kernel_rfl) (k:=.u32) (y:=1) hc' hz';go_enter_d Tryz.func161,Tryz.ntmps161;go_wp2;go_region_calls
 all_goals (go_end0;exact ⟨rfl,rfl⟩)
theorem lock_let (a:Addr) (u:FrameMode) (w:World) (hc:w.cell? a = some (.int .i32 1)) (hz:w.frozen? a = false) :
  CallsD Tryz.prog 160 #[.pointer (some a)] u w fun e u' w'=>u' = u /\ (e = .returned (.tuple #[]) /\ w' = w.setCell a (.int .i32 0)):=by
 have hd:=race_off;have he:=race_on;have hr:=race_let;have hadd:=run_call_add (P:=Tryz.prog) Tryz.func212 (by kernel_rfl) (by kernel_rfl) (by kernel_rfl) .i32 (by kernel_rfl) (y:=-1) (s:=0) hc hz (by simp [go_sem];rfl);have hcv:=run_convert_to_unsafe (P:=Tryz.prog) (src:=256) (dst:=134) Tryz.underlying256 Tryz.underlying134 (by kernel_rfl) hc;go_enter_d Tryz.func160,Tryz.ntmps160;go_wp2;go_end0;go_wp2;go_end0;exact ⟨rfl,rfl⟩
theorem lock_got (a:Addr) (w:World) (hc:w.cell? a = some (.int .i32 0)) (hz:w.frozen? a = false) :
  Calls Tryz.prog 159 #[.pointer (some a)] w fun e w'=>e = .returned (.tuple #[]) /\ w' = w.setCell a (.int .i32 1):=by
 have hd:=race_off;have he:=race_on;have ha:=race_got;have hcas:=run_call_cas_hit (P:=Tryz.prog) Tryz.func207 (by kernel_rfl) (by kernel_rfl) (by kernel_rfl) .i32 (by kernel_rfl) (y:=1) hc hz;have hc':(w.setCell a (.int .i32 1)).cell? a = some (.int .i32 1):=World.cell?_setCell_same w a _ hc;have hcv:=run_convert_to_unsafe (P:=Tryz.prog) (src:=256) (dst:=134) Tryz.underlying256 Tryz.underlying134 (by kernel_rfl) hc';go_enter Tryz.func159,Tryz.ntmps159;go_wp2
 first | go_end0 | (simp only [Exit.inBlock,Exit.then];refine bodyPost_ret (results_none rfl _ _ _) rfl ?_) | refine bodyPost_ret (results_none rfl _ _ _) rfl ?_
 go_wp2;go_end0;exact ⟨rfl,rfl⟩
theorem done_get (a:Addr) (w:World) (h0:w.cell? a = some (.int .u32 0)) :
  Calls Tryz.prog 133 #[.pointer (some a)] w fun e w'=>e = .returned (.bool false) /\ w = w':=by
 have hl:=run_call_load (P:=Tryz.prog) Tryz.func158 (by kernel_rfl) (by kernel_rfl) (by kernel_rfl) .u32 (by kernel_rfl) h0;go_enter Tryz.func133,Tryz.ntmps133;go_wp2;go_ret;exact ⟨rfl,rfl⟩
theorem slow_build (b:Nat) (w:World) (Q:World -> Prop)
  (h0:w.cell? ⟨b,0,none⟩ = some (.int .u32 0)) (h1:w.cell? ⟨b,1,none⟩ = some (.int .i32 0)) (f0:w.frozen? ⟨b,0,none⟩ = false) (f1:w.frozen? ⟨b,1,none⟩ = false)
  (hC:Calls Tryz.prog 112 #[.pointer (some ⟨b,0,none⟩)] (w.setCell ⟨b,1,none⟩ (.int .i32 1)) fun e w'=>e = .returned (.tuple #[]) /\ Q w')
  (hQ:∀ w',Q w' -> w'.cell? ⟨b,0,none⟩ = some (.int .u32 0) /\ w'.cell? ⟨b,1,none⟩ = some (.int .i32 1) /\ w'.frozen? ⟨b,0,none⟩ = false /\ w'.frozen? ⟨b,1,none⟩ = false) :
  Calls Tryz.prog 134 #[.pointer (some ⟨b,0,none⟩),.func (.func 112) #[.pointer (some ⟨b,0,none⟩)] #[]] w fun e w'=>e = .returned (.tuple #[]) /\
   ∃ w1,Q w1 /\ w' = (w1.drew.setCell ⟨b,0,none⟩ (.int .u32 1)).setCell ⟨b,1,none⟩ (.int .i32 0):=by
 have hd1:(w.setCell ⟨b,1,none⟩ (.int .i32 1)).cell? ⟨b,0,none⟩ = some (.int .u32 0):=(World.cell?_setCell_other _ ⟨b,1,none⟩ ⟨b,0,none⟩ _ (by simp)).trans h0;have hnot:∀ (x:Bool) (w:World),(Op.unary .not (.bool x)).run Tryz.prog w = .ok (.bool (!x)) w:=fun _ _=>rfl
 go_enter_defers Tryz.func134,Tryz.ntmps134;go_wp2_with (go_at_call 159;refine (lock_got ⟨b,1,none⟩ _ (by go_simp) (by go_simp)).mono ?_;rintro e w' ⟨rfl,rfl⟩)
 go_wp2_with (first
  |(go_at_call 133;refine (done_get ⟨b,0,none⟩ _ hd1).mono ?_;rintro e w' ⟨rfl,rfl⟩)
  |(go_at_call 112;refine hC.mono ?_;rintro e w2 ⟨rfl,hq⟩))
 refine leaves_cons (f:=161) (args:=#[.pointer (some ⟨b,0,none⟩),.bool true]) (by simp) (by simp [go_sem]) ?_;refine (done_set ⟨b,0,none⟩ (.int .u32 0) .returning _ (hQ _ hq).1 (hQ _ hq).2.2.1).mono ?_;rintro e u' w'' ⟨rfl,rfl,rfl⟩;refine leaves_cons (f:=160) (args:=#[.pointer (some ⟨b,1,none⟩)]) (by simp [settle]) (by simp [go_sem]) ?_;refine (lock_let ⟨b,1,none⟩ _ _ ?_ ?_).mono ?_
 ·refine (World.cell?_setCell_other _ ⟨b,0,none⟩ ⟨b,1,none⟩ _ (by simp)).trans ?_;rw [World.cell?_drew];exact (hQ _ hq).2.1
 ·simp [(hQ _ hq).2.2.2]
 rintro e u' w'' ⟨rfl,rfl,rfl⟩;simp [Leaves,settle,results,Tryz.results134];exact ⟨w2,hq,rfl⟩
theorem once_build (b:Nat) (w:World) (Q:World -> Prop)
  (h0:w.cell? ⟨b,0,none⟩ = some (.int .u32 0)) (h1:w.cell? ⟨b,1,none⟩ = some (.int .i32 0)) (f0:w.frozen? ⟨b,0,none⟩ = false) (f1:w.frozen? ⟨b,1,none⟩ = false)
  (hC:Calls Tryz.prog 112 #[.pointer (some ⟨b,0,none⟩)] (w.setCell ⟨b,1,none⟩ (.int .i32 1)) fun e w'=>e = .returned (.tuple #[]) /\ Q w')
  (hQ:∀ w',Q w' -> w'.cell? ⟨b,0,none⟩ = some (.int .u32 0) /\ w'.cell? ⟨b,1,none⟩ = some (.int .i32 1) /\ w'.frozen? ⟨b,0,none⟩ = false /\ w'.frozen? ⟨b,1,none⟩ = false) :
  Calls Tryz.prog 111 #[.pointer (some ⟨b,0,none⟩),.func (.func 112) #[.pointer (some ⟨b,0,none⟩)] #[]] w fun e w'=>e = .returned (.tuple #[]) /\
   ∃ w1,Q w1 /\ w' = (w1.drew.setCell ⟨b,0,none⟩ (.int .u32 1)).setCell ⟨b,1,none⟩ (.int .i32 0):=by
 have hnot:∀ (x:Bool) (w:World),(Op.unary .not (.bool x)).run Tryz.prog w = .ok (.bool (!x)) w:=fun _ _=>rfl
 go_enter Tryz.func111,Tryz.ntmps111
 go_wp2_with (first
  |(go_at_call 133;refine (done_get ⟨b,0,none⟩ _ h0).mono ?_;rintro e w' ⟨rfl,rfl⟩)
  |(go_at_call 134;refine (slow_build b _ Q h0 h1 f0 f1 hC hQ).mono ?_;rintro e w' ⟨rfl,hq⟩))
 go_end0;exact ⟨rfl,hq⟩
def BuiltT (W:World) (b:Nat) (w w':World):Prop :=
  TagAt W b (w.heap.size + 1) w' /\ w'.cell? ⟨b,3,none⟩ = some (.iface 207 (.pointer (some ⟨w.heap.size + 1,0,none⟩))) /\
  w'.cell? ⟨b,0,none⟩ = some (.int .u32 0) /\ w'.cell? ⟨b,1,none⟩ = some (.int .i32 1) /\ w'.frozen? ⟨b,0,none⟩ = false /\ w'.frozen? ⟨b,1,none⟩ = false
theorem buildOnceT_any (b g c:Nat) (W w:World) (hW:Below W.heap.size W w) (hWb:W.heap.size <= b) (h0:w.cell? ⟨b,0,none⟩ = some (.int .u32 0)) (h1:w.cell? ⟨b,1,none⟩ = some (.int .i32 1)) (h3:w.cell? ⟨b,3,none⟩ = some .nilIface)
  (hf:∀ i:Nat,w.frozen? ⟨b,i,none⟩ = false) (h4:w.cell? ⟨b,4,none⟩ = some (.slice (some ⟨g,0,none⟩) 6 c)) (hg:OldNewT g w) :
  Calls Tryz.prog 112 #[.pointer (some ⟨b,0,none⟩)] w fun e w'=>e = .returned (.tuple #[]) /\ BuiltT W b w w':=by
 have hbl:b < w.heap.size:=World.block_lt_of_cell? w _ h0;go_enter Tryz.func112,Tryz.ntmps112;go_wp2_with (go_at_call 135;refine (buildT_any b g c _ h4 hg).mono ?_;rintro e w2 ⟨rfl,hr⟩;have HR:=hide hr;have hb2:=hr.below;have k3:=(hb2.cell (p:=⟨b,3,none⟩) hbl).trans h3;have k4:=(hb2.cell (p:=⟨b,4,none⟩) hbl).trans h4;have z3:=(hb2.frozen (p:=⟨b,3,none⟩) hbl).trans (hf 3);have z4:=(hb2.frozen (p:=⟨b,4,none⟩) hbl).trans (hf 4);have HB2:=hide hb2;clear hr hb2);go_end0;have k0:=(HB2.out.cell (p:=⟨b,0,none⟩) hbl).trans h0;have k1:=(HB2.out.cell (p:=⟨b,1,none⟩) hbl).trans h1;have z0:=(HB2.out.frozen (p:=⟨b,0,none⟩) hbl).trans (hf 0);have z1:=(HB2.out.frozen (p:=⟨b,1,none⟩) hbl).trans (hf 1);refine ⟨rfl,((HR.out.at hW hWb hbl).set 3 _).set 4 _,?_,?_,?_,?_,?_⟩
 ·exact (World.cell?_setCell_other _ _ _ _ (ne_off (by decide))).trans (World.cell?_setCell_same _ _ _ k3)
 ·exact ((World.cell?_setCell_other _ _ _ _ (ne_off (by decide))).trans (World.cell?_setCell_other _ _ _ _ (ne_off (by decide)))).trans k0
 ·exact ((World.cell?_setCell_other _ _ _ _ (ne_off (by decide))).trans (World.cell?_setCell_other _ _ _ _ (ne_off (by decide)))).trans k1
 ·rw [World.frozen?_setCell,World.frozen?_setCell];exact z0
 ·rw [World.frozen?_setCell,World.frozen?_setCell];exact z1
theorem doT_build (b:Nat) (W w:World) (hW:Below W.heap.size W w) (hWb:W.heap.size <= b) (hn:NewAtT b w) :
  Calls Tryz.prog 111 #[.pointer (some ⟨b,0,none⟩),.func (.func 112) #[.pointer (some ⟨b,0,none⟩)] #[]] w fun e w'=>e = .returned (.tuple #[]) /\
   TagAt W b (w.heap.size + 1) w' /\ w'.cell? ⟨b,3,none⟩ = some (.iface 207 (.pointer (some ⟨w.heap.size + 1,0,none⟩))):=by
 obtain ⟨h0,h1,h3,hf,g,c,h4,⟨o0,o1,o2,o3,o4,o5⟩,hbg⟩:=hn;have es:(w.setCell ⟨b,1,none⟩ (.int .i32 1)).heap.size = w.heap.size:=World.size_setCell ..
 have hb:=buildOnceT_any b g c W (w.setCell ⟨b,1,none⟩ (.int .i32 1)) (hW.setCell hWb _) hWb
  ((World.cell?_setCell_other _ _ _ _ (ne_off (by decide))).trans h0) (World.cell?_setCell_same _ _ _ h1) ((World.cell?_setCell_other _ _ _ _ (ne_off (by decide))).trans h3)
  (fun i=>by rw [World.frozen?_setCell];exact hf i) ((World.cell?_setCell_other _ _ _ _ (ne_off (by decide))).trans h4)
  ⟨(World.cell?_setCell_other _ _ _ _ (ne_blk hbg)).trans o0,(World.cell?_setCell_other _ _ _ _ (ne_blk hbg)).trans o1,(World.cell?_setCell_other _ _ _ _ (ne_blk hbg)).trans o2,(World.cell?_setCell_other _ _ _ _ (ne_blk hbg)).trans o3,(World.cell?_setCell_other _ _ _ _ (ne_blk hbg)).trans o4,(World.cell?_setCell_other _ _ _ _ (ne_blk hbg)).trans o5⟩
 refine (once_build b w _ h0 h1 (hf 0) (hf 1) hb (fun w' hq=>⟨hq.2.2.1,hq.2.2.2.1,hq.2.2.2.2.1,hq.2.2.2.2.2⟩)).mono ?_;rintro e w' ⟨rfl,w1,hq,rfl⟩;refine ⟨rfl,?_,?_⟩
 ·have:=(hq.1.drew.set 0 (.int .u32 1)).set 1 (.int .i32 0);rw [es] at this;exact this
 ·have:=hq.2.1;rw [es] at this;refine ((World.cell?_setCell_other _ _ _ _ (ne_off (by decide))).trans (World.cell?_setCell_other _ _ _ _ (ne_off (by decide)))).trans ?_;rw [World.cell?_drew];exact this
def tagN (l:List UInt8):Nat:=l.count 13 + l.count 10 + l.count 9
theorem keep_len (l:List UInt8):(keepL l).length + tagN l = l.length:=by
 unfold tagN keepL
 induction l with
 | nil=>rfl
 | cons c t ih =>
  rw [List.filter_cons,List.count_cons,List.count_cons,List.count_cons,List.length_cons]
  have h:(c = 13 /\ tagB c = true) \/ (c = 10 /\ tagB c = true) \/ (c = 9 /\ tagB c = true) \/ (c ≠ 13 /\ c ≠ 10 /\ c ≠ 9 /\ tagB c = false) :=
   u8_all (p:=fun c=>(c = 13 /\ tagB c = true) \/ (c = 10 /\ tagB c = true) \/ (c = 9 /\ tagB c = true) \/ (c ≠ 13 /\ c ≠ 10 /\ c ≠ 9 /\ tagB c = false)) (by decide +kernel) c
  rcases h with ⟨rfl,h⟩ | ⟨rfl,h⟩ | ⟨rfl,h⟩ | ⟨h1,h2,h3,h⟩
  iterate 3
   ·rw [h];simp;omega
  ·rw [h];simp [h1,h2,h3];omega
theorem keep_same (l:List UInt8) (h:tagN l = 0):keepL l = l:=by
 have e:=keep_len l;exact (List.filter_sublist (l:=l)).eq_of_length (by unfold keepL at e;omega)
theorem keep_take (s:ByteArray) (k:Nat) (h:k < s.size):keepL (s.data.toList.take (k + 1)) = keepL (s.data.toList.take k) ++ (if tagB s[k] = true then [] else [s[k]]):=by
 rw [take_snoc s k h];unfold keepL;rw [List.filter_append,List.filter_cons,List.filter_nil];cases tagB s[k] <;> rfl
theorem tag_take (s:ByteArray) (k:Nat) (h:k < s.size):tagN (s.data.toList.take (k + 1)) = tagN (s.data.toList.take k) + (if tagB s[k] = true then 1 else 0):=by
 have e1:=keep_len (s.data.toList.take (k + 1));have e2:=keep_len (s.data.toList.take k);rw [keep_take s k h,List.length_append,List.length_take,toList_length] at e1;rw [List.length_take,toList_length] at e2
 by_cases hb:tagB s[k] = true
 ·rw [if_pos hb] at e1 ⊢;simp at e1;omega
 ·rw [if_neg hb] at e1 ⊢;simp at e1;omega
theorem keep_part (s:ByteArray) (k:Nat):(keepL (s.data.toList.take k)).length <= (keepL s.data.toList).length:=by
 unfold keepL;exact ((List.take_sublist k _).filter _).length_le
theorem tag_le (l:List UInt8):tagN l <= l.length:=by have:=keep_len l;omega
theorem tag_case (c:UInt8):(tagB c = true /\ (c.toNat = 9 \/ c.toNat = 10 \/ c.toNat = 13)) \/ (tagB c = false /\ ¬ c.toNat = 9 /\ ¬ c.toNat = 10 /\ ¬ c.toNat = 13) :=
 u8_all (p:=fun c=>(tagB c = true /\ (c.toNat = 9 \/ c.toNat = 10 \/ c.toNat = 13)) \/ (tagB c = false /\ ¬ c.toNat = 9 /\ ¬ c.toNat = 10 /\ ¬ c.toNat = 13)) (by decide +kernel) c
def padL (N:Nat) (o:List UInt8):List UInt8:=o ++ List.replicate (N - o.length) 0
theorem padL_length {N:Nat} {o:List UInt8} (h:o.length <= N):(padL N o).length = N:=by unfold padL;simp;omega
theorem padL_set {N:Nat} {o:List UInt8} (c:UInt8) (h:o.length < N):(padL N o).set o.length c = padL N (o ++ [c]):=by
 unfold padL;rw [List.set_append_right _ _ (Nat.le_refl _),Nat.sub_self];obtain ⟨m,hm⟩:∃ m,N - o.length = m + 1:=⟨N - o.length - 1,by omega⟩
 have hm2:N - (o ++ [c]).length = m:=by simp;omega
 rw [hm,hm2,List.replicate_succ];simp
theorem padL_full (o:List UInt8):padL o.length o = o:=by unfold padL;simp
theorem made_zeroT (w:World) (n:Nat) (h:n <= 140737488355328):∃ w2,(Instr.makeSlice 58 (.int .i64 n) (.int .i64 n)).run Tryz.prog w = .ok (.slice (some ⟨w.heap.size,0,none⟩) n n) w2 /\ Arr w.heap.size w.heap.size (padL n []) w w2:=by
 obtain ⟨i0,hi,hz0,hz1,hz2⟩:=info_parts info_u8;have hm:=run_make (P:=Tryz.prog) w 58 5 i0 _ Tryz.underlying58 hi hz0 .i64 .i64 n n (by omega) (Int.le_refl _) (by rw [hz2];omega) (by omega);simp only [Int.toNat_natCast] at hm;refine ⟨_,hm,fun j hj=>⟨?_,World.frozen?_alloc_at _ _ _ _ rfl⟩,(Below.refl _ w).alloc (Nat.le_refl _) _,Nat.le_refl _,by rw [World.size_alloc];omega⟩;have hj':j < n:=by rw [padL_length (Nat.zero_le _)] at hj;exact hj
 rw [World.cell?_alloc_at _ _ _ _ rfl,hz1,Nat.mul_one];have e0:(padL n [])[j]'hj = 0:=by simp [padL]
 rw [e0];simp [madeCells,hj',Value.cells,Nat.mod_one]
theorem arr_putT {B g N:Nat} {o:List UInt8} {W0 w:World} (h:Arr B g (padL N o) W0 w) (hl:o.length < N) (c:UInt8):Arr B g (padL N (o ++ [c])) W0 (w.setCell ⟨g,o.length,none⟩ (.int .u8 c.toNat)):=by
 have:=h.set o.length (by rw [padL_length (Nat.le_of_lt hl)];exact hl) c _ rfl;rw [padL_set c hl] at this;exact this
theorem size_u8T:(Tryz.prog.info? 5).map (·.size) = some 1:=by kernel_rfl
theorem step_copy_none {ops:Array Oper} {o:Oper} {a:Act} {w:World} {K:Act -> World -> Prop} {Q:Exit -> Act -> World -> Prop} {E:Prop} (hgd:o.guard = none) (d sl:Operand)
  (ho:o.op = .call { callee:=.builtin .copy,args:=#[d,sl],argTypes:=#[58,58] })
  (g jn dl dc gx cx:Nat) (hd:a.eval d = .slice (some ⟨g,jn,none⟩) dl dc) (hs:a.eval sl = .slice (some ⟨gx,0,none⟩) 0 cx)
  (h:K (a.put o.dst (goInt 0)) w) :
  if Region.wanted o (yielded ops a.tmps) = true then Oper.wp Tryz.prog o a w K Q else E:=by
 have hw:Region.wanted o (yielded ops a.tmps) = true:=by simp [Region.wanted,hgd]
 rw [if_pos hw]
 have hr:=run_copy_cells (P:=Tryz.prog) w 58 58 o.type 5 g jn dl dc ⟨gx,0,none⟩ 0 cx [] Tryz.underlying58 size_u8T (by show 0 = Nat.min 0 dl;exact (Nat.zero_min dl).symm)
  (fun j v hv=>by simp at hv)
  (fun j hj=>absurd hj (Nat.not_lt_zero _))
  (fun j hj=>absurd hj (Nat.not_lt_zero _))
  (fun v hv=>by cases hv)
 unfold Oper.wp execOp;simp only [ho,resolve,invoke,builtin,Sem.run_bind,Sem.run_pure,Result.andThen_ok,List.map_toArray,List.map_cons,List.map_nil,hd,hs,hr];exact h
theorem replaceT_any (s:ByteArray) (b R:Nat) (W w:World) (hr:TagAt W b R w) (hs:s.size <= 35184372088832) :
  Calls Tryz.prog 270 #[.pointer (some ⟨R,0,none⟩),.string s] w fun e w'=>e = .returned (.string (str (keepL s.data.toList))) /\ Below w.heap.size w w':=by
 obtain ⟨G,v9,v10,v13,e9,e10,e13,⟨B0,hR,hG,hne,hc,hf,h256,hG0,hG1,hG2,hfG⟩,hWb,l1,l2⟩:=hr;have hlR:R < w.heap.size:=World.block_lt_of_cell? w _ h256;have hlG:G < w.heap.size:=World.block_lt_of_cell? w _ hG0;have hcl:=hide hc;clear hc hf hfG;have htl:=tag_le s.data.toList;rw [toList_length] at htl
 by_cases hbig:24 <= s.size
 ·have t16:decide ((24:Int) <= (s.size:Int)) = true:=decide_eq_true (by omega);have HBIG:=hide hbig;clear hbig;go_enter Tryz.func270,Tryz.ntmps270;go_wp2_with fail;obtain ⟨q1,hq1⟩:∃ q,q = s.data.toList.count 13:=⟨_,rfl⟩
  obtain ⟨q2,hq2⟩:∃ q,q = s.data.toList.count 10:=⟨_,rfl⟩
  obtain ⟨q3,hq3⟩:∃ q,q = s.data.toList.count 9:=⟨_,rfl⟩
  have HT:Hid (tagN s.data.toList = q1 + q2 + q3):=hide (by rw [hq1,hq2,hq3];rfl);rw [HT.out] at htl;have HQ1:=hide hq1;have HQ2:=hide hq2;have HQ3:=hide hq3;clear hq1 hq2 hq3;go_loopw [5,6,32] (fun n a k wr=>∃ (nn:Nat) (bb:Bool),nn <= s.size /\ n = .int .i64 nn /\ a = .bool bb /\ Hid (bb = decide (nn ≠ s.size)) /\ Hid (Below w.heap.size w wr) /\ ((k = .int .i64 0 /\ Hid (nn = s.size)) \/ (k = .int .i64 1 /\ Hid (nn + q1 = s.size)) \/ (k = .int .i64 2 /\ Hid (nn + (q1 + q2) = s.size)) \/ (k = .int .i64 3 /\ Hid (nn + (q1 + q2 + q3) = s.size)))) (fun _ _ k _=>3 - (intOf k).toNat)
  case atStart=>exact ⟨s.size,false,Nat.le_refl _,rfl,rfl,hide (by simp),hide (Below.refl _ _),.inl ⟨rfl,rfl⟩⟩
  case round =>
   obtain ⟨nn,bb,hnn,rfl,rfl,HB,HBW,⟨rfl,HQ⟩ | ⟨rfl,HQ⟩ | ⟨rfl,HQ⟩ | ⟨rfl,HQ⟩⟩:=hrel
   ·have hcn:=Tryz.strings_Count_one s 13 wr;have hB:=HBW.out;have k256:=(hB.cell (p:=⟨R,256,none⟩) hlR).trans h256;have kG0:=(hB.cell (p:=⟨G,0,none⟩) hlG).trans hG0;have kG1:=(hB.cell (p:=⟨G,1,none⟩) hlG).trans hG1;have kG2:=(hB.cell (p:=⟨G,2,none⟩) hlG).trans hG2;clear hB;obtain ⟨g2,c2,ev⟩:=e13;have h92:wr.cell? ⟨R,((⟨#[13]⟩:ByteArray)[0]'(by decide)).toNat,none⟩ = some (.slice (some ⟨g2,0,none⟩) 0 c2):=(HBW.out.cell (p:=⟨R,13,none⟩) hlR).trans (by rw [hcl.out 13 (by decide),<- ev];rfl);have hqn:q1 <= nn:=by have:=HQ.out;omega
    clear ev
    by_cases hz:q1 = 0
    ·go_wp2_with (refine hcn.mono ?_;rintro e w1 ⟨rfl,hw1⟩;obtain rfl:wr = w1:=hw1.symm;rw [show Lib.countByte s.data.toList 13 = 0 from HQ1.out.symm.trans hz]);go_round
     case rel=>exact ⟨nn,bb,hnn,by go_num,rfl,HB,HBW,.inr (.inl ⟨rfl,hide (by have:=HQ.out;omega)⟩)⟩
     case measure=>simp [intOf]
    ·go_wp2_with (refine hcn.mono ?_;rintro e w1 ⟨rfl,hw1⟩;obtain rfl:wr = w1:=hw1.symm;rw [show Lib.countByte s.data.toList 13 = q1 from HQ1.out.symm]);go_region_calls
     all_goals
      go_wp2_with fail;go_round
      case rel=>exact ⟨nn - q1,true,by omega,congrArg (Value.int .i64) (by omega),rfl,hide (by simp;have:=HQ.out;omega),hide HBW.out.drew,.inr (.inl ⟨rfl,hide (by have:=HQ.out;omega)⟩)⟩
      case measure=>simp [intOf]
   ·have hcn:=Tryz.strings_Count_one s 10 wr;have hB:=HBW.out;have k256:=(hB.cell (p:=⟨R,256,none⟩) hlR).trans h256;have kG0:=(hB.cell (p:=⟨G,0,none⟩) hlG).trans hG0;have kG1:=(hB.cell (p:=⟨G,1,none⟩) hlG).trans hG1;have kG2:=(hB.cell (p:=⟨G,2,none⟩) hlG).trans hG2;clear hB;obtain ⟨g2,c2,ev⟩:=e10;have h92:wr.cell? ⟨R,((⟨#[10]⟩:ByteArray)[0]'(by decide)).toNat,none⟩ = some (.slice (some ⟨g2,0,none⟩) 0 c2):=(HBW.out.cell (p:=⟨R,10,none⟩) hlR).trans (by rw [hcl.out 10 (by decide),<- ev];rfl);have hqn:q2 <= nn:=by have:=HQ.out;omega
    clear ev
    by_cases hz:q2 = 0
    ·go_wp2_with (refine hcn.mono ?_;rintro e w1 ⟨rfl,hw1⟩;obtain rfl:wr = w1:=hw1.symm;rw [show Lib.countByte s.data.toList 10 = 0 from HQ2.out.symm.trans hz]);go_round
     case rel=>exact ⟨nn,bb,hnn,by go_num,rfl,HB,HBW,.inr (.inr (.inl ⟨rfl,hide (by have:=HQ.out;omega)⟩))⟩
     case measure=>simp [intOf]
    ·go_wp2_with (refine hcn.mono ?_;rintro e w1 ⟨rfl,hw1⟩;obtain rfl:wr = w1:=hw1.symm;rw [show Lib.countByte s.data.toList 10 = q2 from HQ2.out.symm]);go_region_calls
     all_goals
      go_wp2_with fail;go_round
      case rel=>exact ⟨nn - q2,true,by omega,congrArg (Value.int .i64) (by omega),rfl,hide (by simp;have:=HQ.out;omega),hide HBW.out.drew,.inr (.inr (.inl ⟨rfl,hide (by have:=HQ.out;omega)⟩))⟩
      case measure=>simp [intOf]
   ·have hcn:=Tryz.strings_Count_one s 9 wr;have hB:=HBW.out;have k256:=(hB.cell (p:=⟨R,256,none⟩) hlR).trans h256;have kG0:=(hB.cell (p:=⟨G,0,none⟩) hlG).trans hG0;have kG1:=(hB.cell (p:=⟨G,1,none⟩) hlG).trans hG1;have kG2:=(hB.cell (p:=⟨G,2,none⟩) hlG).trans hG2;clear hB;obtain ⟨g2,c2,ev⟩:=e9;have h92:wr.cell? ⟨R,((⟨#[9]⟩:ByteArray)[0]'(by decide)).toNat,none⟩ = some (.slice (some ⟨g2,0,none⟩) 0 c2):=(HBW.out.cell (p:=⟨R,9,none⟩) hlR).trans (by rw [hcl.out 9 (by decide),<- ev];rfl);have hqn:q3 <= nn:=by have:=HQ.out;omega
    clear ev
    by_cases hz:q3 = 0
    ·go_wp2_with (refine hcn.mono ?_;rintro e w1 ⟨rfl,hw1⟩;obtain rfl:wr = w1:=hw1.symm;rw [show Lib.countByte s.data.toList 9 = 0 from HQ3.out.symm.trans hz]);go_round
     case rel=>exact ⟨nn,bb,hnn,by go_num,rfl,HB,HBW,.inr (.inr (.inr ⟨rfl,hide (by have:=HQ.out;omega)⟩))⟩
     case measure=>simp [intOf]
    ·go_wp2_with (refine hcn.mono ?_;rintro e w1 ⟨rfl,hw1⟩;obtain rfl:wr = w1:=hw1.symm;rw [show Lib.countByte s.data.toList 9 = q3 from HQ3.out.symm]);go_region_calls
     all_goals
      go_wp2_with fail;go_round
      case rel=>exact ⟨nn - q3,true,by omega,congrArg (Value.int .i64) (by omega),rfl,hide (by simp;have:=HQ.out;omega),hide HBW.out.drew,.inr (.inr (.inr ⟨rfl,hide (by have:=HQ.out;omega)⟩))⟩
      case measure=>simp [intOf]
   ·have HQN:Hid (nn = (keepL s.data.toList).length):=hide (by have h1:=keep_len s.data.toList;rw [toList_length,HT.out] at h1;have:=HQ.out;omega);cases bb with
    | false =>
     have hz:nn = s.size:=by have:=HB.out;simpa using this
     have HE:Hid (str (keepL s.data.toList) = s):=hide (by rw [keep_same _ (by have h1:=keep_len s.data.toList;rw [toList_length] at h1;have:=HQN.out;omega),str_of]);clear hz;go_wp2_with fail;go_ret;exact ⟨ret_str HE.out.symm,HBW.out⟩
    | true =>
     obtain ⟨N,hN⟩:∃ N,N = nn:=⟨_,rfl⟩
     rw [<- hN];have hNb:N <= 140737488355328:=by omega
     have HN:Hid (N = (keepL s.data.toList).length):=hide (by rw [hN];exact HQN.out);clear hN;obtain ⟨w2,hm,ha⟩:=made_zeroT wr N hNb;have HA2:=hide ha;clear ha;go_wp2_with fail;go_loopw [13,14] (fun j i w3=>∃ k jn:Nat,k <= s.size /\ i = .int .i64 k /\ j = .int .i64 jn /\ Hid (jn = (keepL (s.data.toList.take k)).length) /\ Hid (Arr wr.heap.size wr.heap.size (padL N (keepL (s.data.toList.take k))) wr w3)) (fun _ i _=>s.size - (intOf i).toNat)
     case atStart=>exact ⟨0,0,Nat.zero_le _,rfl,rfl,rfl,HA2⟩
     case round =>
      obtain ⟨k,jn,hk,rfl,rfl,HJ,HA⟩:=hrel
      by_cases hlt:k < s.size
      ·have hb256:(s[k].toNat:Int) < 256:=by have:=(s[k]).toNat_lt;omega
       have HBW2:=hide (HBW.out.trans (HA.out.below.mono HBW.out.size));have hcell:=(HBW2.out.cell (p:=⟨R,s[k].toNat,none⟩) hlR).trans (hcl.out s[k].toNat (s[k]).toNat_lt);have hes:=keep_take s k hlt;have hle:=keep_part s (k + 1);rw [<- HN.out,hes,List.length_append,<- HJ.out] at hle;have hjl:jn <= N:=by omega
       rcases tag_case s[k] with ⟨hx,hx2⟩ | ⟨hx,n9,n10,n13⟩
       ·rw [if_pos hx] at hes
        obtain ⟨gx,cx,hcx⟩:∃ gx cx:Nat,wr.cell? ⟨R,s[k].toNat,none⟩ = some (.slice (some ⟨gx,0,none⟩) 0 cx):=by
         rw [hcell];rcases hx2 with h1 | h1 | h1
         ·rw [h1];obtain ⟨a,b,e⟩:=e9;exact ⟨a,b,by rw [if_pos rfl,e]⟩
         ·rw [h1];obtain ⟨a,b,e⟩:=e10;exact ⟨a,b,by rw [if_neg (by decide),if_pos rfl,e]⟩
         ·rw [h1];obtain ⟨a,b,e⟩:=e13;exact ⟨a,b,by rw [if_neg (by decide),if_neg (by decide),if_pos rfl,e]⟩
        have HJ2:Hid (jn = (keepL (s.data.toList.take (k + 1))).length):=hide (by rw [hes,List.append_nil];exact HJ.out);have HP:Hid (Arr _ _ (padL N (keepL (s.data.toList.take (k + 1)))) _ wr.drew):=hide (by rw [hes,List.append_nil];exact HA.out.drew);clear hcell hx hx2 hle hes;rcases Nat.lt_or_ge jn N with hjN | hjN
        ·have hnN:¬ N = jn:=by omega
         go_wp2_with fail;go_region_law (refine step_copy_none rfl _ _ rfl _ jn _ _ gx cx rfl rfl ?_)
         all_goals
          try go_wp2_with fail
          exact ⟨⟨k + 1,jn,by omega,by go_num,by go_num,HJ2,HP⟩,by simp [intOf];omega⟩
        ·obtain rfl:jn = N:=by omega
         go_wp2_with fail;go_region_law (refine step_copy_none rfl _ _ rfl _ _ _ _ gx cx rfl rfl ?_)
         all_goals
          try go_wp2_with fail
          exact ⟨⟨k + 1,jn,by omega,by go_num,by go_num,HJ2,HP⟩,by simp [intOf];omega⟩
       ·rw [if_neg (by rw [hx];decide)] at hes hle;have hj1:jn + 1 <= N:=hle
        have hc1:wr.cell? ⟨R,s[k].toNat,none⟩ = some (.slice none 0 0):=by
         rw [hcell,if_neg n9,if_neg n10,if_neg n13];rfl
        have hjl2:(keepL (s.data.toList.take k)).length <= N:=by rw [<- HJ.out];exact hjl
        obtain ⟨vj,kj⟩:∃ v,wr.cell? ⟨_,jn,none⟩ = some v:=⟨_,HA.out.cell jn (by rw [padL_length hjl2];omega)⟩
        have zj:=HA.out.free jn (by rw [padL_length hjl2];omega);have hp:=arr_putT HA.out (by rw [<- HJ.out];omega) s[k];have hjn:jn + 1 = (keepL (s.data.toList.take (k + 1))).length:=by rw [hes,List.length_append,<- HJ.out];rfl
        rw [<- HJ.out,<- hes] at hp;have HP:=hide hp;have HJ2:=hide hjn;clear hcell hx n9 n10 n13 hle hp hjn hes hjl2;go_wp2_with fail;go_round
        case rel=>exact ⟨k + 1,jn + 1,by omega,by go_num,by go_num,HJ2,HP⟩
        case measure=>simp [intOf];omega
      ·have hk2:k = s.size:=by omega
       have hes:keepL (s.data.toList.take k) = keepL s.data.toList:=by rw [List.take_of_length_le (by rw [toList_length];omega)]
       have ha:=HA.out;rw [hes,HN.out,padL_full] at ha;have hcv:=ha.convert N;rw [<- HN.out] at hcv;have HBW2:=hide (HBW.out.trans (HA.out.below.mono HBW.out.size));clear ha hes;go_wp2_with fail;go_ret;exact ⟨rfl,HBW2.out⟩
 ·have t16:decide ((24:Int) <= (s.size:Int)) = false:=decide_eq_false (by omega);have HBIG:=hide hbig;clear hbig;go_enter Tryz.func270,Tryz.ntmps270;go_wp2_with fail;go_loopw [5,6,10] (fun n a i wr=>∃ (k q:Nat) (bb:Bool),k <= s.size /\ i = .int .i64 k /\ q <= k /\ n = .int .i64 (s.size - q:Nat) /\ a = .bool bb /\ Hid (bb = decide (q ≠ 0)) /\ Hid (q = tagN (s.data.toList.take k)) /\ Hid (Below w.heap.size w wr)) (fun _ _ i _=>s.size - (intOf i).toNat)
  case atStart=>exact ⟨0,0,false,Nat.zero_le _,rfl,Nat.le_refl _,rfl,rfl,rfl,rfl,hide (Below.refl _ _)⟩
  case round =>
   obtain ⟨k,q,bb,hk,rfl,hqk,rfl,rfl,HB,HQ,HBW⟩:=hrel;obtain ⟨nn,hnn⟩:∃ nn,nn = s.size - q:=⟨_,rfl⟩
   rw [<- hnn];have hnn2:nn + q = s.size:=by omega
   have HNN:=hide hnn2;clear hnn
   by_cases hlt:k < s.size
   ·have hq:=tag_take s k hlt;rw [<- HQ.out] at hq;have hcell:=(HBW.out.cell (p:=⟨R,s[k].toNat,none⟩) hlR).trans (hcl.out s[k].toNat (s[k]).toNat_lt);have hb256:(s[k].toNat:Int) < 256:=by have:=(s[k]).toNat_lt;omega
    have hn1:1 <= nn:=by omega
    have hnm:nn <= s.size:=by omega
    clear hnn2;rcases tag_case s[k] with ⟨hx,hx2⟩ | ⟨hx,n9,n10,n13⟩
    ·rw [if_pos hx] at hq
     obtain ⟨gx,cx,hcx⟩:∃ gx cx:Nat,wr.cell? ⟨R,s[k].toNat,none⟩ = some (.slice (some ⟨gx,0,none⟩) 0 cx):=by
      rw [hcell];rcases hx2 with h1 | h1 | h1
      ·rw [h1];obtain ⟨a,b,e⟩:=e9;exact ⟨a,b,by rw [if_pos rfl,e]⟩
      ·rw [h1];obtain ⟨a,b,e⟩:=e10;exact ⟨a,b,by rw [if_neg (by decide),if_pos rfl,e]⟩
      ·rw [h1];obtain ⟨a,b,e⟩:=e13;exact ⟨a,b,by rw [if_neg (by decide),if_neg (by decide),if_pos rfl,e]⟩
     have HN:Hid (q + 1 = tagN (s.data.toList.take (k + 1))):=hide hq.symm;clear hq hcell hx hx2;go_wp2_with fail;go_round
     case rel=>exact ⟨k + 1,q + 1,true,by omega,by go_num,by omega,congrArg (Value.int .i64) (by have:=HNN.out;omega),rfl,hide (by simp),HN,HBW⟩
     case measure=>simp [intOf];omega
    ·rw [if_neg (by rw [hx];decide)] at hq
     have hc1:wr.cell? ⟨R,s[k].toNat,none⟩ = some (.slice none 0 0):=by
      rw [hcell,if_neg n9,if_neg n10,if_neg n13];rfl
     have HN:Hid (q = tagN (s.data.toList.take (k + 1))):=hide hq.symm;clear hq hcell hx n9 n10 n13;go_wp2_with fail;go_round
     case rel=>exact ⟨k + 1,q,bb,by omega,by go_num,by omega,congrArg (Value.int .i64) (by have:=HNN.out;omega),rfl,HB,HN,HBW⟩
     case measure=>simp [intOf];omega
   ·have HQT:Hid (q = tagN s.data.toList):=hide (by rw [HQ.out,List.take_of_length_le (by rw [toList_length];omega)]);have HQN:Hid (nn = (keepL s.data.toList).length):=hide (by have h1:=keep_len s.data.toList;rw [toList_length,<- HQT.out] at h1;omega);clear hnn2;cases bb with
    | false =>
     have hz:q = 0:=by have:=HB.out;simpa using this
     have HE:Hid (str (keepL s.data.toList) = s):=hide (by rw [keep_same _ (HQT.out.symm.trans hz),str_of]);clear hz;go_wp2_with fail;go_ret;exact ⟨ret_str HE.out.symm,HBW.out⟩
    | true =>
     obtain ⟨N,hN⟩:∃ N,N = nn:=⟨_,rfl⟩
     rw [<- hN];have hNb:N <= 140737488355328:=by have:=HNN.out;omega
     have HN:Hid (N = (keepL s.data.toList).length):=hide (by rw [hN];exact HQN.out);clear hN;obtain ⟨w2,hm,ha⟩:=made_zeroT wr N hNb;have HA2:=hide ha;clear ha;go_wp2_with fail;go_loopw [13,14] (fun j i w3=>∃ k jn:Nat,k <= s.size /\ i = .int .i64 k /\ j = .int .i64 jn /\ Hid (jn = (keepL (s.data.toList.take k)).length) /\ Hid (Arr wr.heap.size wr.heap.size (padL N (keepL (s.data.toList.take k))) wr w3)) (fun _ i _=>s.size - (intOf i).toNat)
     case atStart=>exact ⟨0,0,Nat.zero_le _,rfl,rfl,rfl,HA2⟩
     case round =>
      obtain ⟨k,jn,hk,rfl,rfl,HJ,HA⟩:=hrel
      by_cases hlt:k < s.size
      ·have hb256:(s[k].toNat:Int) < 256:=by have:=(s[k]).toNat_lt;omega
       have HBW2:=hide (HBW.out.trans (HA.out.below.mono HBW.out.size));have hcell:=(HBW2.out.cell (p:=⟨R,s[k].toNat,none⟩) hlR).trans (hcl.out s[k].toNat (s[k]).toNat_lt);have hes:=keep_take s k hlt;have hle:=keep_part s (k + 1);rw [<- HN.out,hes,List.length_append,<- HJ.out] at hle;have hjl:jn <= N:=by omega
       rcases tag_case s[k] with ⟨hx,hx2⟩ | ⟨hx,n9,n10,n13⟩
       ·rw [if_pos hx] at hes
        obtain ⟨gx,cx,hcx⟩:∃ gx cx:Nat,wr.cell? ⟨R,s[k].toNat,none⟩ = some (.slice (some ⟨gx,0,none⟩) 0 cx):=by
         rw [hcell];rcases hx2 with h1 | h1 | h1
         ·rw [h1];obtain ⟨a,b,e⟩:=e9;exact ⟨a,b,by rw [if_pos rfl,e]⟩
         ·rw [h1];obtain ⟨a,b,e⟩:=e10;exact ⟨a,b,by rw [if_neg (by decide),if_pos rfl,e]⟩
         ·rw [h1];obtain ⟨a,b,e⟩:=e13;exact ⟨a,b,by rw [if_neg (by decide),if_neg (by decide),if_pos rfl,e]⟩
        have HJ2:Hid (jn = (keepL (s.data.toList.take (k + 1))).length):=hide (by rw [hes,List.append_nil];exact HJ.out);have HP:Hid (Arr _ _ (padL N (keepL (s.data.toList.take (k + 1)))) _ wr.drew):=hide (by rw [hes,List.append_nil];exact HA.out.drew);clear hcell hx hx2 hle hes;rcases Nat.lt_or_ge jn N with hjN | hjN
        ·have hnN:¬ N = jn:=by omega
         go_wp2_with fail;go_region_law (refine step_copy_none rfl _ _ rfl _ jn _ _ gx cx rfl rfl ?_)
         all_goals
          try go_wp2_with fail
          exact ⟨⟨k + 1,jn,by omega,by go_num,by go_num,HJ2,HP⟩,by simp [intOf];omega⟩
        ·obtain rfl:jn = N:=by omega
         go_wp2_with fail;go_region_law (refine step_copy_none rfl _ _ rfl _ _ _ _ gx cx rfl rfl ?_)
         all_goals
          try go_wp2_with fail
          exact ⟨⟨k + 1,jn,by omega,by go_num,by go_num,HJ2,HP⟩,by simp [intOf];omega⟩
       ·rw [if_neg (by rw [hx];decide)] at hes hle;have hj1:jn + 1 <= N:=hle
        have hc1:wr.cell? ⟨R,s[k].toNat,none⟩ = some (.slice none 0 0):=by
         rw [hcell,if_neg n9,if_neg n10,if_neg n13];rfl
        have hjl2:(keepL (s.data.toList.take k)).length <= N:=by rw [<- HJ.out];exact hjl
        obtain ⟨vj,kj⟩:∃ v,wr.cell? ⟨_,jn,none⟩ = some v:=⟨_,HA.out.cell jn (by rw [padL_length hjl2];omega)⟩
        have zj:=HA.out.free jn (by rw [padL_length hjl2];omega);have hp:=arr_putT HA.out (by rw [<- HJ.out];omega) s[k];have hjn:jn + 1 = (keepL (s.data.toList.take (k + 1))).length:=by rw [hes,List.length_append,<- HJ.out];rfl
        rw [<- HJ.out,<- hes] at hp;have HP:=hide hp;have HJ2:=hide hjn;clear hcell hx n9 n10 n13 hle hp hjn hes hjl2;go_wp2_with fail;go_round
        case rel=>exact ⟨k + 1,jn + 1,by omega,by go_num,by go_num,HJ2,HP⟩
        case measure=>simp [intOf];omega
      ·have hk2:k = s.size:=by omega
       have hes:keepL (s.data.toList.take k) = keepL s.data.toList:=by rw [List.take_of_length_le (by rw [toList_length];omega)]
       have ha:=HA.out;rw [hes,HN.out,padL_full] at ha;have hcv:=ha.convert N;rw [<- HN.out] at hcv;have HBW2:=hide (HBW.out.trans (HA.out.below.mono HBW.out.size));clear ha hes;go_wp2_with fail;go_ret;exact ⟨rfl,HBW2.out⟩
theorem meth_replaceT (a : Addr) (w : World) : (method 417 207 (.pointer (some a)) "Replace").run Tryz.prog w = .ok (270, .pointer (some a)) w := by kernel_rfl
theorem replacerT_any (s:ByteArray) (b:Nat) (W w:World) (hW:Below W.heap.size W w) (hWb:W.heap.size <= b) (hn:NewAtT b w) (hs:s.size <= 35184372088832) :
  Calls Tryz.prog 94 #[.pointer (some ⟨b,0,none⟩),.string s] w fun e w'=>e = .returned (.string (str (keepL s.data.toList))) /\ Below W.heap.size W w':=by
 go_enter Tryz.func94,Tryz.ntmps94;have hmt:=meth_replaceT;have HD:=hide (doT_build b W w hW hWb hn)
 go_wp2_with (first
  |(go_at_call 111;refine HD.out.mono ?_;rintro e w1 ⟨rfl,hr1,hc1⟩;have HR1:=hide hr1;clear hr1)
  |(go_at_call 270;refine (replaceT_any s b _ W _ HR1.out hs).mono ?_;rintro e w2 ⟨rfl,hb2⟩;have HB2:=hide hb2;clear hb2))
 go_ret;exact ⟨rfl,HR1.out.below.trans (HB2.out.mono HR1.out.below.size)⟩
theorem newReplacerT_any (g:Nat) (w:World) (hg:OldNewT g w) :
  Calls Tryz.prog 93 #[.slice (some ⟨g,0,none⟩) 6 6] w fun e w'=>∃ b:Nat,e = .returned (.pointer (some ⟨b,0,none⟩)) /\ w.heap.size <= b /\ Below w.heap.size w w' /\ NewAtT b w':=by
 obtain ⟨h0,h1,h2,h3,h4,h5⟩:=hg;go_enter Tryz.func93,Tryz.ntmps93;go_wp2_with fail;go_ret;generalize (Question.appendCap 6 0 9).cut _ = cp;have es:∀ C T,(w.alloc (.cells C T)).heap.size = w.heap.size + 1:=fun C T=>World.size_alloc ..
 refine ⟨w.heap.size + 1,rfl,Nat.le_succ _,(((Below.refl _ w).alloc (Nat.le_refl _) _).alloc (by rw [es];exact Nat.le_succ _) _).drew,?_,?_,?_,fun i=>?_,w.heap.size,cp,?_,⟨?_,?_,?_,?_,?_,?_⟩,by omega⟩
 iterate 3
  ·rw [World.cell?_drew,World.cell?_alloc_at _ _ _ _ (es _ _).symm];rfl
 ·rw [World.frozen?_drew];exact World.frozen?_alloc_at _ _ _ _ (es _ _).symm
 ·rw [World.cell?_drew,World.cell?_alloc_at _ _ _ _ (es _ _).symm];rfl
 iterate 6
  ·rw [World.cell?_drew,World.cell?_alloc_past _ _ _ (by rw [es];exact Nat.lt_succ_self _),World.cell?_alloc_at _ _ _ _ rfl,Array.getElem?_append_left (by decide)];rfl
theorem old_newT (w:World) (t:TypeId):OldNewT w.heap.size (w.alloc (.cells #[.string ⟨#[9]⟩,.string ⟨#[]⟩,.string ⟨#[10]⟩,.string ⟨#[]⟩,.string ⟨#[13]⟩,.string ⟨#[]⟩] t)) :=
 ⟨by rw [World.cell?_alloc_at _ _ _ _ rfl];rfl,by rw [World.cell?_alloc_at _ _ _ _ rfl];rfl,by rw [World.cell?_alloc_at _ _ _ _ rfl];rfl,by rw [World.cell?_alloc_at _ _ _ _ rfl];rfl,by rw [World.cell?_alloc_at _ _ _ _ rfl];rfl,by rw [World.cell?_alloc_at _ _ _ _ rfl];rfl⟩
theorem lowR_any (x:Nat) (w:World) (hx:x <= 1114111) :
  Calls Tryz.prog 92 #[.int .i32 (x:Int)] w fun e w'=>e = .returned (.bool (lowR x)) /\ w = w':=by
 unfold lowR
 by_cases h:x <= 32
 ·have e:decide (x <= 32) = true:=decide_eq_true h;rw [e];clear e
  go_enter Tryz.func92,Tryz.ntmps92;go_wp2;go_ret;exact ⟨ret_bool (by first | rfl | (simp;omega)),rfl⟩
 ·have e:decide (x <= 32) = false:=decide_eq_false h;rw [e];clear e
  go_enter Tryz.func92,Tryz.ntmps92;go_wp2;go_ret;exact ⟨ret_bool (by first | rfl | (simp;omega)),rfl⟩
theorem enters_low:∀ args w,(callFunc 92 args).run Tryz.prog w = .ok (.enter 92 args) w:=enters_of Tryz.func92 (by kernel_rfl) rfl
theorem pred_low (w:World):PredGrows Tryz.prog 92 #[] lowR w:=fun W x hx hb=>(lowR_any x W hx).mono fun e w' ⟨he,hw⟩=>⟨he,hw ▸ Below.refl _ _⟩
def EnvU (w:World):Prop:=Lib.Utf8Tabs 1 2 w
theorem EnvU.kept {w w':World} (h:EnvU w) (hb:Below w.heap.size w w'):EnvU w':=Utf8Tabs_below h hb
theorem trimFunc_any (s:ByteArray) (w:World) (hs:s.size <= 1048576) (hE:EnvU w) :
  Calls Tryz.prog 91 #[.string s,.func (.func 92) #[] #[]] w fun e w'=>e = .returned (.string (str (trimW s.data.toList))) /\ Below w.heap.size w w':=by
 refine (Tryz.strings_TrimFunc_grows 92 #[] enters_low lowR s w (by omega) hE (pred_low w)).mono ?_;rintro e w1 ⟨rfl,hb⟩;refine ⟨ret_str (ext_list ?_),hb⟩;rw [trimF_low,str_toList]
theorem linkClean_any (s:ByteArray) (w:World) (hs:s.size <= 1048576) (hE:EnvU w) :
  Calls Tryz.prog 65 #[.string s] w fun e w'=>e = .returned (.string (str (lkClean s.data.toList))) /\ Below w.heap.size w w':=by
 obtain ⟨X,hX⟩:∃ X,X = str (trimW s.data.toList):=⟨_,rfl⟩
 have hXs:X.size <= 1048576:=by
  rw [hX,str_size];have:=trimW_length s.data.toList;rw [toList_length] at this;omega
 have HC:Hid (str (keepL X.data.toList) = str (lkClean s.data.toList)):=hide (by rw [hX,str_toList];rfl);have HX:=hide hX;have HON:=hide (fun w=>old_newT w 9);have HE:=hide hE;clear hX hE;go_enter Tryz.func65,Tryz.ntmps65
 go_wp2_with (first
  |(go_at_call 91;refine (trimFunc_any s _ hs HE.out).mono ?_;rw [<- HX.out];rintro e w1 ⟨rfl,hb1⟩;have HB0:=hide (hb1.alloc hb1.size (.cells #[.string ⟨#[9]⟩,.string ⟨#[]⟩,.string ⟨#[10]⟩,.string ⟨#[]⟩,.string ⟨#[13]⟩,.string ⟨#[]⟩] 9));clear hb1)
  |(go_at_call 93;refine (newReplacerT_any _ _ (HON.out _)).mono ?_;rintro e w2 ⟨b,rfl,hbb,hb2,hn2⟩;have HN2:=hide hn2;have HB2:=hide (HB0.out.trans (hb2.mono HB0.out.size));have HBB:=hide (Nat.le_trans HB0.out.size hbb);clear hbb hb2 hn2)
  |(go_at_call 94;refine (replacerT_any X b w _ HB2.out HBB.out HN2.out (by omega)).mono ?_;rintro e w3 ⟨rfl,hb3⟩;have HB3:=hide hb3;clear hb3))
 go_ret;exact ⟨by first | rfl | (rw [HC.out];rfl),HB3.out⟩
theorem sch_mark (c:UInt8):markB [43,45,46] c = schB c :=
 u8_all (p:=fun c=>markB [43,45,46] c = schB c) (by decide +kernel) c
theorem sch_letter (c:UInt8) (h:letterB c = true):schB c = true:=by unfold schB;rw [h];rfl
def cutKV (l:List UInt8):Value :=
  match schL l with
  | none=>.tuple #[.string ⟨#[]⟩,.string ⟨#[]⟩,.bool false]
  | some (n,b)=>.tuple #[.string (str n),.string (str b),.bool true]
theorem cutKV_none {l:List UInt8} (h:schL l = none):cutKV l = .tuple #[.string ⟨#[]⟩,.string ⟨#[]⟩,.bool false]:=by unfold cutKV;rw [h]
theorem cutKV_some {l n b:List UInt8} (h:schL l = some (n,b)):cutKV l = .tuple #[.string (str n),.string (str b),.bool true]:=by unfold cutKV;rw [h]
theorem take_drop_at (s:ByteArray) (k:Nat) (h:k < s.size):s.data.toList = s.data.toList.take k ++ s[k] :: s.data.toList.drop (k + 1):=by
 rw [<- drop_cons s k h,List.take_append_drop]
theorem headOK_take (s:ByteArray) (k:Nat) (h0:0 < k) (h:headOK s.data.toList = true):headOK (s.data.toList.take k) = true:=by
 cases hl:s.data.toList with
 | nil=>rw [hl] at h;cases h
 | cons a r =>
  rw [hl] at h;obtain ⟨j,rfl⟩:∃ j,k = j + 1:=⟨k - 1,by omega⟩
  exact h
theorem linkCut_any (s:ByteArray) (w:World) (hs:s.size <= 1048576) :
  Calls Tryz.prog 89 #[.string s] w fun e w'=>e = .returned (cutKV s.data.toList) /\ Below w.heap.size w w':=by
 go_enter Tryz.func89,Tryz.ntmps89;go_wp2_with fail;go_loop [9] (fun i=>∃ k:Nat,k <= s.size /\ i = .int .i64 k /\ Hid (∀ x ∈ s.data.toList.take k,schB x = true) /\ Hid (0 < k -> headOK s.data.toList = true)) (fun i=>s.size - (intOf i).toNat)
 case atStart=>exact ⟨0,Nat.zero_le _,rfl,hide (fun x hx=>by simp at hx),hide (fun h=>absurd h (by omega))⟩
 case round =>
  obtain ⟨k,hk,rfl,HA,HH⟩:=hrel
  by_cases hlt:k < s.size
  ·have hsplit:=take_drop_at s k hlt
   have hnext:schB s[k] = true -> ∀ x ∈ s.data.toList.take (k + 1),schB x = true:=by
    intro h x hx;rw [take_snoc s k hlt] at hx;rcases List.mem_append.1 hx with hx | hx
    ·exact HA.out x hx
    ·rw [List.mem_singleton.1 hx];exact h
   have hhead:letterB s[k] = true -> headOK s.data.toList = true \/ 0 < k:=by
    intro h;rcases Nat.eq_zero_or_pos k with h0 | h0
    ·subst h0;refine .inl ?_;rw [hsplit];exact h
    ·exact .inr h0
   have hHN:=HH.out;cases hl:letterB s[k] with
   | true =>
    have HL:=hide hl;have HA2:=hide (hnext (sch_letter _ hl));have HH2:Hid (0 < k + 1 -> headOK s.data.toList = true):=hide (fun _=>(hhead hl).elim id hHN);clear hsplit hnext hhead hHN hl;go_wp2_with fail;refine (asciiLetter_any _ _).mono ?_;rintro e w1 ⟨rfl,rfl⟩;rw [HL.out];go_wp2_with fail;go_round
    case rel=>exact ⟨k + 1,by omega,by go_num,HA2,HH2⟩
    case measure=>simp [intOf];omega
   | false =>
    have HL:=hide hl;rcases Nat.eq_zero_or_pos k with h0 | h0
    ·have HN:Hid (schL s.data.toList = none):=hide (by
      have e:s.data.toList = s[k] :: s.data.toList.drop (k + 1):=by rw [<- drop_cons s k hlt,h0,List.drop_zero]
      rw [e];exact schL_head hl)
     have tk:decide ((0:Int) < ((k:Nat):Int)) = false:=decide_eq_false (by omega);have hk0:¬ 0 < k:=by omega
     clear hsplit hnext hhead hHN hl h0;go_wp2_with fail;refine (asciiLetter_any _ _).mono ?_;rintro e w1 ⟨rfl,rfl⟩;rw [HL.out];go_wp2_with fail;go_ret3;exact ⟨by rw [cutKV_none HN.out];rfl,Below.refl _ _⟩
    ·have tk:decide ((0:Int) < ((k:Nat):Int)) = true:=decide_eq_true (by omega);have HM:Hid (markB (⟨#[43,45,46]⟩:ByteArray).data.toList s[k] = schB s[k]):=hide (sch_mark _);cases hsc:schB s[k] with
     | true =>
      have HSC:=hide hsc;have HA2:=hide (hnext hsc);have HH2:Hid (0 < k + 1 -> headOK s.data.toList = true):=hide (fun _=>hHN h0);clear hsplit hnext hhead hHN hl hsc;go_wp2_with fail;refine (asciiLetter_any _ _).mono ?_;rintro e w1 ⟨rfl,rfl⟩;rw [HL.out];go_wp2_with fail;refine (asciiPlain_any _ _ _).mono ?_;rintro e w1 ⟨rfl,rfl⟩;rw [HM.out,HSC.out];go_wp2_with fail;go_round
      case rel=>exact ⟨k + 1,by omega,by go_num,HA2,HH2⟩
      case measure=>simp [intOf];omega
     | false =>
      have HSC:=hide hsc
      by_cases h58:s[k] = 58
      ·have t58:((s[k].toNat:Int) == 58) = true:=tT 58 h58 (by omega)
       have HC:Hid (schL s.data.toList = some (lowL (s.data.toList.take k),s.data.toList.drop (k + 1))):=hide (by
        conv=>lhs;rw [hsplit,h58]
        exact schL_of (headOK_take s k h0 (hHN h0)) HA.out)
       have HX:Hid ((s.extract 0 k).size <= 70368744177664):=hide (by have:=extract_size_le s 0 k;omega);clear hsplit hnext hhead hHN hl hsc h58;go_wp2_with fail;refine (asciiLetter_any _ _).mono ?_;rintro e w1 ⟨rfl,rfl⟩;rw [HL.out];go_wp2_with fail;refine (asciiPlain_any _ _ _).mono ?_;rintro e w1 ⟨rfl,rfl⟩;rw [HM.out,HSC.out];go_wp2_with fail;have q1:IntKind.i64.wrap ((k:Int) + 1) = (k:Int) + 1:=IntWalk.i64_in _ (by omega);have q2:(0:Int) <= (k:Int) + 1:=by omega
       have q3:((k:Int) + 1).toNat = k + 1:=by omega
       have q4:(k:Int) + 1 <= s.size:=by omega
       have q5:(k:Int) <= s.size:=by omega
       go_region_with ((with_reducible refine (lower_any _ _ HX.out).mono ?_);rintro e w2 ⟨rfl,hb2⟩)
       all_goals
        try go_wp2_with fail
        go_ret3;refine ⟨?_,by first | exact hb2 | exact hb2.drew | exact ((Below.refl _ _).drew).trans (hb2.mono (Nat.le_refl _))⟩;rw [cutKV_some HC.out];have e1:(s.extract 0 k).data.toList = s.data.toList.take k:=by rw [extract_list,List.drop_zero]
        have e2:s.extract (k + 1) s.size = str (s.data.toList.drop (k + 1)):=ext_list (by rw [extract_end,str_toList]);rw [<- e2]
        first | rfl | (rw [<- e1];rfl)
      ·have t58:((s[k].toNat:Int) == 58) = false:=tF 58 h58 (by omega)
       have HN:Hid (schL s.data.toList = none):=hide (by
        rw [hsplit];exact schL_stop HA.out hsc h58)
       clear hsplit hnext hhead hHN hl hsc h58;go_wp2_with fail;refine (asciiLetter_any _ _).mono ?_;rintro e w1 ⟨rfl,rfl⟩;rw [HL.out];go_wp2_with fail;refine (asciiPlain_any _ _ _).mono ?_;rintro e w1 ⟨rfl,rfl⟩;rw [HM.out,HSC.out];go_wp2_with fail;go_ret3;exact ⟨by rw [cutKV_none HN.out];rfl,Below.refl _ _⟩
  ·have HN:Hid (schL s.data.toList = none):=hide (schL_end (by
    have:=HA.out
    rwa [List.take_of_length_le (by rw [toList_length];omega)] at this))
   go_wp2_with fail;go_ret3;exact ⟨by rw [cutKV_none HN.out];rfl,Below.refl _ _⟩
theorem clean_size (s:ByteArray):(str (lkClean s.data.toList)).size <= s.size:=by
 rw [str_size];have:=clean_length s.data.toList
 rwa [toList_length] at this
theorem noH_case (c:UInt8):(0 <= Lib.indexByte [47,63,35,92] c /\ noH c = true) \/ (¬ 0 <= Lib.indexByte [47,63,35,92] c /\ noH c = false) :=
 u8_all (p:=fun c=>(0 <= Lib.indexByte [47,63,35,92] c /\ noH c = true) \/ (¬ 0 <= Lib.indexByte [47,63,35,92] c /\ noH c = false)) (by decide +kernel) c
theorem host_not {l:List UInt8} (h:Lib.hasPrefix l [47,47] = false):hostB l = false:=by
 match l,h with
 | [],_=>rfl
 | [_],_=>rfl
 | [_,_],_=>rfl
 | a :: b :: c :: r,h =>
  cases hh:(a == 47 && b == 47) with
  | true =>
   rw [Bool.and_eq_true,beq_iff_eq,beq_iff_eq] at hh;rw [hh.1,hh.2] at h;simp [Lib.hasPrefix] at h
  | false =>
   show (a == 47 && b == 47 && !noH c) = false
   rw [hh];rfl
theorem host_yes {l:List UInt8} (h:Lib.hasPrefix l [47,47] = true):∃ r,l = 47 :: 47 :: r:=by
 unfold Lib.hasPrefix at h;obtain ⟨r,hr⟩:=List.isPrefixOf_iff_prefix.1 h;exact ⟨r,hr.symm⟩
def hostK (l:List UInt8) (K:Nat):Int:=if hostB l = true then (K:Int) else 5
theorem hostK_f {l:List UInt8} (K:Nat) (h:hostB l = false):hostK l K = 5:=by unfold hostK;rw [h];rfl
theorem hostK_t {l:List UInt8} (K:Nat) (h:hostB l = true):hostK l K = K:=by unfold hostK;rw [h];rfl
theorem ifHost_any (s:ByteArray) (K:Nat) (hK:K <= 5) (w:World) :
  Calls Tryz.prog 90 #[.string s,.int .i64 K] w fun e w'=>e = .returned (.int .i64 (hostK s.data.toList K)) /\ w = w':=by
 cases hp:Lib.hasPrefix s.data.toList [47,47] with
 | false =>
  have HR:Hid (hostB s.data.toList = false):=hide (host_not hp);have HP:Hid (Lib.hasPrefix s.data.toList (⟨#[47,47]⟩:ByteArray).data.toList = false):=hide hp;clear hp;go_enter Tryz.func90,Tryz.ntmps90;go_wp2_with fail;refine (Tryz.strings_CutPrefix s _ _).mono ?_;rintro e w1 ⟨rfl,hw⟩;subst hw;rw [HP.out];go_wp2_with fail;go_ret;exact ⟨ret_int (hostK_f K HR.out).symm,rfl⟩
 | true =>
  obtain ⟨r,hr⟩:=host_yes hp;obtain ⟨T,hT⟩:∃ T:ByteArray,T = str r:=⟨_,rfl⟩
  have HP:Hid (Lib.hasPrefix s.data.toList (⟨#[47,47]⟩:ByteArray).data.toList = true):=hide hp
  have HT:Hid ((⟨(Lib.trimPrefix s.data.toList (⟨#[47,47]⟩:ByteArray).data.toList).toArray⟩:ByteArray) = T):=hide (by
   rw [hT];unfold Lib.trimPrefix;rw [show (⟨#[47,47]⟩:ByteArray).data.toList = [47,47] from rfl,hp,hr];rfl)
  cases r with
  | nil =>
   have HR:Hid (hostB s.data.toList = false):=hide (by rw [hr];rfl);have t0:T.toList.isEmpty = true:=by rw [hT,str_list];rfl
   have t1:T.toList = []:=by rw [hT,str_list]
   clear hp hr hT;go_enter Tryz.func90,Tryz.ntmps90;go_wp2_with fail;refine (Tryz.strings_CutPrefix s _ _).mono ?_;rintro e w1 ⟨rfl,hw⟩;subst hw;rw [HP.out,HT.out];go_wp2_with fail;go_ret;exact ⟨ret_int (hostK_f K HR.out).symm,rfl⟩
  | cons c r =>
   have hTs:0 < T.size:=by rw [hT,str_size];simp
   have hT0:T[0] = c:=by
    subst hT;have e:=drop_cons (str (c :: r)) 0 hTs;rw [List.drop_zero,str_toList] at e;exact (List.cons.inj e).1.symm
   have t0:T.toList.isEmpty = false:=by rw [hT,str_list];rfl
   have hu:(T[0].toNat:Int).toNat.toUInt8 = c:=by rw [hT0,Int.toNat_natCast];exact UInt8.ofNat_toNat
   have HU:=hide hu;have hc256:=byte_lt c;have HR:Hid (hostB s.data.toList = !noH c):=hide (by rw [hr];rfl);rcases noH_case c with ⟨m1,m2⟩ | ⟨m1,m2⟩
   all_goals
    have HM:Hid (decide (0 <= Lib.indexByte (⟨#[47,63,35,92]⟩:ByteArray).data.toList c) = _):=hide (show decide (0 <= Lib.indexByte [47,63,35,92] c) = noH c by rw [m2];first | exact decide_eq_true m1 | exact decide_eq_false m1);have HM2:=hide m2;clear hp hr hT hT0 hu m1 m2;go_enter Tryz.func90,Tryz.ntmps90;go_wp2_with fail;refine (Tryz.strings_CutPrefix s _ _).mono ?_;rintro e w1 ⟨rfl,hw⟩;subst hw;rw [HP.out,HT.out];go_wp2_with fail;refine (Tryz.strings_IndexByte _ _ _).mono ?_;rintro e w1 ⟨rfl,rfl⟩;rw [HU.out];have hm:=HM.out;rw [HM2.out] at hm;go_wp2_with fail;go_ret;exact ⟨ret_int (by first | exact (hostK_f K (by rw [HR.out,HM2.out];rfl)).symm | exact (hostK_t K (by rw [HR.out,HM2.out];rfl)).symm),rfl⟩
theorem kindOf_http (b:List UInt8):((lkKindOf httpL b:Nat):Int) = hostK b 1:=by
 unfold lkKindOf hostK;rw [if_pos rfl];split <;> rfl
theorem kindOf_https (b:List UInt8):((lkKindOf httpsL b:Nat):Int) = hostK b 2:=by
 unfold lkKindOf hostK;rw [if_neg (by decide),if_pos rfl];split <;> rfl
theorem kindOf_mail (b:List UInt8):lkKindOf mailL b = 3:=by
 unfold lkKindOf;rw [if_neg (by decide),if_neg (by decide),if_pos rfl]
theorem kindOf_cid (b:List UInt8):lkKindOf cidL b = 4:=by
 unfold lkKindOf;rw [if_neg (by decide),if_neg (by decide),if_neg (by decide),if_pos rfl]
theorem kindOf_other {n:List UInt8} (b:List UInt8) (h1:n ≠ httpL) (h2:n ≠ httpsL) (h3:n ≠ mailL) (h4:n ≠ cidL):lkKindOf n b = 5:=by
 unfold lkKindOf;rw [if_neg h1,if_neg h2,if_neg h3,if_neg h4]
theorem eqF {a b:List UInt8} (h:a ≠ b):(a == b) = false:=beq_eq_false_iff_ne.2 h
theorem eqT {a b:List UInt8} (h:a = b):(a == b) = true:=by rw [h];exact beq_self_eq_true b
theorem linkKind_any (s:ByteArray) (w:World) (hs:s.size <= 1048576) (hE:EnvU w) :
  Calls Tryz.prog 64 #[.string s] w fun e w'=>e = .returned (.int .i64 ((lkKind (lkClean s.data.toList):Nat):Int)) /\ Below w.heap.size w w':=by
 have HZ:Hid ((str (lkClean s.data.toList)).size <= 1048576):=hide (Nat.le_trans (clean_size s) hs);have HV:Hid (cutKV (str (lkClean s.data.toList)).data.toList = cutKV (lkClean s.data.toList)):=hide (by rw [str_toList]);have HE:=hide hE;clear hE;cases hc:schL (lkClean s.data.toList) with
 | none =>
  have HC:Hid (cutKV (lkClean s.data.toList) = _):=hide (cutKV_none hc);have HR:Hid (lkKind (lkClean s.data.toList) = 0):=hide (lkKind_none hc);clear hc;go_enter Tryz.func64,Tryz.ntmps64;go_wp2_with fail;refine (linkClean_any s _ hs HE.out).mono ?_;rintro e w1 ⟨rfl,hb1⟩;go_wp2_with fail;refine (linkCut_any _ _ HZ.out).mono ?_;rintro e w2 ⟨rfl,hb2⟩;rw [HV.out,HC.out];go_wp2_with fail;go_ret;exact ⟨by rw [HR.out];rfl,hb1.trans (hb2.mono hb1.size)⟩
 | some p =>
  obtain ⟨n,b⟩:=p;obtain ⟨N,hN⟩:∃ N:ByteArray,N = str n:=⟨_,rfl⟩
  have hNl:N.toList = n:=by rw [hN,str_list]
  have HC:Hid (cutKV (lkClean s.data.toList) = .tuple #[.string N,.string (str b),.bool true]):=hide (by rw [cutKV_some hc,hN]);have HR:Hid (lkKind (lkClean s.data.toList) = lkKindOf n b):=hide (lkKind_some hc);have HBL:Hid ((str b).data.toList = b):=hide (str_toList b);clear hc hN
  by_cases h1:n = httpL
  ·have t1:(N.toList == [104,116,116,112]) = true:=eqT (hNl.trans h1);have HK:Hid (((lkKind (lkClean s.data.toList):Nat):Int) = hostK b 1):=hide (by rw [HR.out,h1];exact kindOf_http b);clear h1 hNl HR;go_enter Tryz.func64,Tryz.ntmps64;go_wp2_with fail;refine (linkClean_any s _ hs HE.out).mono ?_;rintro e w1 ⟨rfl,hb1⟩;go_wp2_with fail;refine (linkCut_any _ _ HZ.out).mono ?_;rintro e w2 ⟨rfl,hb2⟩;rw [HV.out,HC.out];go_wp2_with fail;refine (ifHost_any _ 1 (by omega) _).mono ?_;rintro e w3 ⟨rfl,rfl⟩;rw [HBL.out];go_wp2_with fail;go_ret;exact ⟨by rw [HK.out];rfl,hb1.trans (hb2.mono hb1.size)⟩
  have t1:(N.toList == [104,116,116,112]) = false:=eqF (by rw [hNl];exact h1)
  by_cases h2:n = httpsL
  ·have t2:(N.toList == [104,116,116,112,115]) = true:=eqT (hNl.trans h2);have HK:Hid (((lkKind (lkClean s.data.toList):Nat):Int) = hostK b 2):=hide (by rw [HR.out,h2];exact kindOf_https b);clear h1 h2 hNl HR;go_enter Tryz.func64,Tryz.ntmps64;go_wp2_with fail;refine (linkClean_any s _ hs HE.out).mono ?_;rintro e w1 ⟨rfl,hb1⟩;go_wp2_with fail;refine (linkCut_any _ _ HZ.out).mono ?_;rintro e w2 ⟨rfl,hb2⟩;rw [HV.out,HC.out];go_wp2_with fail;refine (ifHost_any _ 2 (by omega) _).mono ?_;rintro e w3 ⟨rfl,rfl⟩;rw [HBL.out];go_wp2_with fail;go_ret;exact ⟨by rw [HK.out];rfl,hb1.trans (hb2.mono hb1.size)⟩
  have t2:(N.toList == [104,116,116,112,115]) = false:=eqF (by rw [hNl];exact h2)
  have hrest:∀ (t3 t4:Bool) (K:Nat),(N.toList == [109,97,105,108,116,111]) = t3 -> (N.toList == [99,105,100]) = t4 -> (t3 = true -> K = 3) -> (t3 = false -> t4 = true -> K = 4) -> (t3 = false -> t4 = false -> K = 5) -> lkKind (lkClean s.data.toList) = K ->
    Calls Tryz.prog 64 #[.string s] w fun e w'=>e = .returned (.int .i64 ((lkKind (lkClean s.data.toList):Nat):Int)) /\ Below w.heap.size w w':=by
   intro t3 t4 K e3 e4 k3 k4 k5 hK;have HK:Hid (lkKind (lkClean s.data.toList) = K):=hide hK;clear h1 h2 hNl HR hK;cases t3 with
   | true =>
    obtain rfl:=k3 rfl;clear k3 k4 k5;go_enter Tryz.func64,Tryz.ntmps64;go_wp2_with fail;refine (linkClean_any s _ hs HE.out).mono ?_;rintro e w1 ⟨rfl,hb1⟩;go_wp2_with fail;refine (linkCut_any _ _ HZ.out).mono ?_;rintro e w2 ⟨rfl,hb2⟩;rw [HV.out,HC.out];go_wp2_with fail;go_ret;exact ⟨by rw [HK.out];rfl,hb1.trans (hb2.mono hb1.size)⟩
   | false =>
    cases t4 with
    | true =>
     obtain rfl:=k4 rfl rfl;clear k3 k4 k5;go_enter Tryz.func64,Tryz.ntmps64;go_wp2_with fail;refine (linkClean_any s _ hs HE.out).mono ?_;rintro e w1 ⟨rfl,hb1⟩;go_wp2_with fail;refine (linkCut_any _ _ HZ.out).mono ?_;rintro e w2 ⟨rfl,hb2⟩;rw [HV.out,HC.out];go_wp2_with fail;go_ret;exact ⟨by rw [HK.out];rfl,hb1.trans (hb2.mono hb1.size)⟩
    | false =>
     obtain rfl:=k5 rfl rfl;clear k3 k4 k5;go_enter Tryz.func64,Tryz.ntmps64;go_wp2_with fail;refine (linkClean_any s _ hs HE.out).mono ?_;rintro e w1 ⟨rfl,hb1⟩;go_wp2_with fail;refine (linkCut_any _ _ HZ.out).mono ?_;rintro e w2 ⟨rfl,hb2⟩;rw [HV.out,HC.out];go_wp2_with fail;go_ret;exact ⟨by rw [HK.out];rfl,hb1.trans (hb2.mono hb1.size)⟩
  by_cases h3:n = mailL
  ·exact hrest true false 3 (eqT (hNl.trans h3)) (eqF (by rw [hNl,h3];decide)) (fun _=>rfl) (fun e=>by cases e) (fun e=>by cases e) (by rw [HR.out,h3];exact kindOf_mail b)
  by_cases h4:n = cidL
  ·exact hrest false true 4 (eqF (by rw [hNl];exact h3)) (eqT (hNl.trans h4)) (fun e=>by cases e) (fun _ _=>rfl) (fun _ e=>by cases e) (by rw [HR.out,h4];exact kindOf_cid b)
  exact hrest false false 5 (eqF (by rw [hNl];exact h3)) (eqF (by rw [hNl];exact h4)) (fun e=>by cases e) (fun _ e=>by cases e) (fun _ _=>rfl) (by rw [HR.out];exact kindOf_other b h1 h2 h3 h4)
def valV (o:Option (List UInt8)):Value:=.tuple #[.string (str (o.getD [])),.bool o.isSome]
theorem valV_some (v:ByteArray):valV (some v.data.toList) = .tuple #[.string v,.bool true]:=by unfold valV;rw [Option.getD_some,str_of];rfl
theorem valV_str (l:List UInt8):valV (some l) = .tuple #[.string (str l),.bool true]:=rfl
theorem valV_none:valV none = .tuple #[.string ⟨#[]⟩,.bool false]:=rfl
theorem onlyT_any (v:ByteArray) (w:World):Calls Tryz.prog 149 #[.bool true,.string v] w fun e w'=>e = .returned (.tuple #[.string v,.bool true]) /\ w = w':=only_any true v w
theorem onlyF_any (v:ByteArray) (w:World):Calls Tryz.prog 149 #[.bool false,.string v] w fun e w'=>e = .returned (.tuple #[.string ⟨#[]⟩,.bool false]) /\ w = w':=only_any false v w
theorem alloc_below (w:World) (o:Obj):Below w.heap.size w (w.alloc o):=(Below.refl _ _).alloc (Nat.le_refl _) _
def GBox (w:World) (b:Nat) (r s q:Bool) (v:Value):Prop :=
  w.cell? ⟨b,0,none⟩ = some (.bool r) /\ w.cell? ⟨b,1,none⟩ = some (.bool s) /\ w.cell? ⟨b,2,none⟩ = some (.bool q) /\ w.cell? ⟨b,3,none⟩ = some v
theorem GBox.new (w:World) (r s q:Bool) (v:Value) (t:TypeId):GBox (w.alloc (.cells #[.bool r,.bool s,.bool q,v] t)) w.heap.size r s q v:=by
 refine ⟨?_,?_,?_,?_⟩ <;> (rw [World.cell?_alloc_at _ _ _ _ rfl];rfl)
theorem GBox.kept {w w':World} {b:Nat} {r s q:Bool} {v:Value} (h:GBox w b r s q v) (hb:Below w.heap.size w w'):GBox w' b r s q v:=by
 obtain ⟨h0,h1,h2,h3⟩:=h;exact ⟨(hb.cell (World.block_lt_of_cell? _ _ h0)).trans h0,(hb.cell (World.block_lt_of_cell? _ _ h1)).trans h1,(hb.cell (World.block_lt_of_cell? _ _ h2)).trans h2,(hb.cell (World.block_lt_of_cell? _ _ h3)).trans h3⟩
theorem kind_le5 (l:List UInt8):lkKind l <= 5:=by
 unfold lkKind;split
 ·omega
 ·exact (lkKindOf_pos _ _).2
theorem kind_cases (l:List UInt8):lkKind l = 0 \/ lkKind l = 1 \/ lkKind l = 2 \/ lkKind l = 3 \/ lkKind l = 4 \/ lkKind l = 5:=by
 have:=kind_le5 l;omega
theorem gWords_any (r s q:Bool) (A:Option Addr) (F:List FileL) (cap:Nat) (v:ByteArray) (w:World) :
  Calls Tryz.prog 128 #[.agg #[.bool r,.bool s,.bool q,.slice A F.length cap],.string v] w fun e w'=>e = .returned (valV (some v.data.toList)) /\ Below w.heap.size w w':=by
 rw [valV_some];go_enter Tryz.func128,Tryz.ntmps128;go_wp2_with fail;go_ret2;exact ⟨rfl,alloc_below _ _⟩
theorem gDir_any (r s q:Bool) (A:Option Addr) (F:List FileL) (cap:Nat) (v:ByteArray) (w:World) :
  Calls Tryz.prog 126 #[.agg #[.bool r,.bool s,.bool q,.slice A F.length cap],.string v] w fun e w'=>e = .returned (valV (keepO (dirB v.data.toList) v.data.toList)) /\ Below w.heap.size w w':=by
 cases h0:(v.data.toList == [108,116,114]) with
 | true =>
  have t0:(v.toList == [108,116,114]) = true:=by rw [bytes_list];exact h0
  have hd:dirB v.data.toList = true:=by unfold dirB;rw [h0];rfl
  rw [hd];clear hd h0;go_enter Tryz.func126,Tryz.ntmps126;go_wp2_with fail;refine (onlyT_any _ _).mono ?_;rintro e wo ⟨rfl,rfl⟩;go_wp2_with fail;go_ret2;exact ⟨by rw [keepO,if_pos rfl,valV_some] <;> rfl,alloc_below _ _⟩
 | false =>
  cases h1:(v.data.toList == [114,116,108]) with
  | true =>
   have t0:(v.toList == [108,116,114]) = false:=by rw [bytes_list];exact h0
   have t1:(v.toList == [114,116,108]) = true:=by rw [bytes_list];exact h1
   have hd:dirB v.data.toList = true:=by unfold dirB;rw [h0,h1];rfl
   rw [hd];clear hd h0 h1;go_enter Tryz.func126,Tryz.ntmps126;go_wp2_with fail;refine (onlyT_any _ _).mono ?_;rintro e wo ⟨rfl,rfl⟩;go_wp2_with fail;go_ret2;exact ⟨by rw [keepO,if_pos rfl,valV_some] <;> rfl,alloc_below _ _⟩
  | false =>
   cases h2:(v.data.toList == [97,117,116,111]) with
   | true =>
    have t0:(v.toList == [108,116,114]) = false:=by rw [bytes_list];exact h0
    have t1:(v.toList == [114,116,108]) = false:=by rw [bytes_list];exact h1
    have t2:(v.toList == [97,117,116,111]) = true:=by rw [bytes_list];exact h2
    have hd:dirB v.data.toList = true:=by unfold dirB;rw [h0,h1,h2];rfl
    rw [hd];clear hd h0 h1 h2;go_enter Tryz.func126,Tryz.ntmps126;go_wp2_with fail;refine (onlyT_any _ _).mono ?_;rintro e wo ⟨rfl,rfl⟩;go_wp2_with fail;go_ret2;exact ⟨by rw [keepO,if_pos rfl,valV_some] <;> rfl,alloc_below _ _⟩
   | false =>
    have t0:(v.toList == [108,116,114]) = false:=by rw [bytes_list];exact h0
    have t1:(v.toList == [114,116,108]) = false:=by rw [bytes_list];exact h1
    have t2:(v.toList == [97,117,116,111]) = false:=by rw [bytes_list];exact h2
    have hd:dirB v.data.toList = false:=by unfold dirB;rw [h0,h1,h2];rfl
    rw [hd];clear hd h0 h1 h2;go_enter Tryz.func126,Tryz.ntmps126;go_wp2_with fail;refine (onlyF_any _ _).mono ?_;rintro e wo ⟨rfl,rfl⟩;go_wp2_with fail;go_ret2;exact ⟨rfl,alloc_below _ _⟩
theorem within_dig (l:List UInt8):withinB 48 57 l = l.all digitB:=by
 unfold withinB
 congr 1
 funext c
 exact u8_all (p:=fun c=>(decide ((48:Int) <= (c.toNat:Int)) && decide ((c.toNat:Int) <= 57)) = digitB c) (by decide +kernel) c
theorem gNum_any (r s q:Bool) (A:Option Addr) (F:List FileL) (cap:Nat) (v:ByteArray) (w:World) (hs:v.size <= maxLen) :
  Calls Tryz.prog 125 #[.agg #[.bool r,.bool s,.bool q,.slice A F.length cap],.string v] w fun e w'=>e = .returned (valV (keepO (digsB v.data.toList) v.data.toList)) /\ Below w.heap.size w w':=by
 by_cases hz:v.size = 0
 ·have h0:v = ⟨#[]⟩:=ext_list (size0 hz).1;subst h0;go_enter Tryz.func125,Tryz.ntmps125;go_wp2_with fail;refine (onlyF_any _ _).mono ?_;rintro e wo ⟨rfl,rfl⟩;go_wp2_with fail;go_ret2;exact ⟨rfl,alloc_below _ _⟩
 ·have e1:v.toList.isEmpty = false:=(sizeP hz).2;have e2:(!v.toList.isEmpty) = true:=by rw [e1];rfl
  have e3:v.data.toList.isEmpty = false:=by rw [<- bytes_list];exact e1
  by_cases hl:v.size <= 4
  ·have l1:decide ((v.size:Int) <= 4) = true:=decide_eq_true (by omega);cases hp:withinB 48 57 v.data.toList with
   | true =>
    have hd:digsB v.data.toList = true:=by unfold digsB;rw [e3,toList_length,decide_eq_true hl];simpa [within_dig] using hp
    rw [hd];have HC:=hide (fun w2=>within_any v 48 57 w2 hs);rw [hp] at HC;clear hd e3 hz hp;go_enter Tryz.func125,Tryz.ntmps125;go_wp2_with fail;refine (HC.out _).mono ?_;rintro e w1 ⟨rfl,rfl⟩;go_wp2_with fail;refine (onlyT_any _ _).mono ?_;rintro e wo ⟨rfl,rfl⟩;go_wp2_with fail;go_ret2;exact ⟨by rw [keepO,if_pos rfl,valV_some] <;> rfl,alloc_below _ _⟩
   | false =>
    have hd:digsB v.data.toList = false:=by unfold digsB;rw [e3,toList_length,decide_eq_true hl];simpa [within_dig] using hp
    rw [hd];have HC:=hide (fun w2=>within_any v 48 57 w2 hs);rw [hp] at HC;clear hd e3 hz hp;go_enter Tryz.func125,Tryz.ntmps125;go_wp2_with fail;refine (HC.out _).mono ?_;rintro e w1 ⟨rfl,rfl⟩;go_wp2_with fail;refine (onlyF_any _ _).mono ?_;rintro e wo ⟨rfl,rfl⟩;go_wp2_with fail;go_ret2;exact ⟨rfl,alloc_below _ _⟩
  ·have l1:decide ((v.size:Int) <= 4) = false:=decide_eq_false (by omega);have hd:digsB v.data.toList = false:=by unfold digsB;rw [e3,toList_length,decide_eq_false (by omega)];rfl
   rw [hd];clear hd e3 hz hl;go_enter Tryz.func125,Tryz.ntmps125;go_wp2_with fail;refine (onlyF_any _ _).mono ?_;rintro e wo ⟨rfl,rfl⟩;go_wp2_with fail;go_ret2;exact ⟨rfl,alloc_below _ _⟩
theorem gLang_any (r s q:Bool) (A:Option Addr) (F:List FileL) (cap:Nat) (v:ByteArray) (w:World) (hs:v.size <= maxLen) :
  Calls Tryz.prog 127 #[.agg #[.bool r,.bool s,.bool q,.slice A F.length cap],.string v] w fun e w'=>e = .returned (valV (keepO (langB v.data.toList) v.data.toList)) /\ Below w.heap.size w w':=by
 by_cases hz:v.size = 0
 ·have h0:v = ⟨#[]⟩:=ext_list (size0 hz).1;subst h0;go_enter Tryz.func127,Tryz.ntmps127;go_wp2_with fail;refine (onlyF_any _ _).mono ?_;rintro e wo ⟨rfl,rfl⟩;go_wp2_with fail;go_ret2;exact ⟨rfl,alloc_below _ _⟩
 ·have e1:v.toList.isEmpty = false:=(sizeP hz).2;have e2:(!v.toList.isEmpty) = true:=by rw [e1];rfl
  have e3:v.data.toList.isEmpty = false:=by rw [<- bytes_list];exact e1
  by_cases hl:v.size <= 20
  ·have l1:decide ((v.size:Int) <= 20) = true:=decide_eq_true (by omega);cases hp:allMark (⟨#[45]⟩:ByteArray).data.toList v.data.toList with
   | true =>
    have hd:langB v.data.toList = true:=by unfold langB;rw [e3,toList_length,decide_eq_true hl];simpa [allMark] using hp
    rw [hd];have HC:=hide (fun w2=>allPlain_any v ⟨#[45]⟩ w2 hs);rw [hp] at HC;clear hd e3 hz hp;go_enter Tryz.func127,Tryz.ntmps127;go_wp2_with fail;refine (HC.out _).mono ?_;rintro e w1 ⟨rfl,rfl⟩;go_wp2_with fail;refine (onlyT_any _ _).mono ?_;rintro e wo ⟨rfl,rfl⟩;go_wp2_with fail;go_ret2;exact ⟨by rw [keepO,if_pos rfl,valV_some] <;> rfl,alloc_below _ _⟩
   | false =>
    have hd:langB v.data.toList = false:=by unfold langB;rw [e3,toList_length,decide_eq_true hl];simpa [allMark] using hp
    rw [hd];have HC:=hide (fun w2=>allPlain_any v ⟨#[45]⟩ w2 hs);rw [hp] at HC;clear hd e3 hz hp;go_enter Tryz.func127,Tryz.ntmps127;go_wp2_with fail;refine (HC.out _).mono ?_;rintro e w1 ⟨rfl,rfl⟩;go_wp2_with fail;refine (onlyF_any _ _).mono ?_;rintro e wo ⟨rfl,rfl⟩;go_wp2_with fail;go_ret2;exact ⟨rfl,alloc_below _ _⟩
  ·have l1:decide ((v.size:Int) <= 20) = false:=decide_eq_false (by omega);have hd:langB v.data.toList = false:=by unfold langB;rw [e3,toList_length,decide_eq_false (by omega)];rfl
   rw [hd];clear hd e3 hz hl;go_enter Tryz.func127,Tryz.ntmps127;go_wp2_with fail;refine (onlyF_any _ _).mono ?_;rintro e wo ⟨rfl,rfl⟩;go_wp2_with fail;go_ret2;exact ⟨rfl,alloc_below _ _⟩
theorem gStyle_any (r s q:Bool) (A:Option Addr) (F:List FileL) (cap:Nat) (v:ByteArray) (w:World) (hs:v.size <= 10000) (hE:EnvC w) :
  Calls Tryz.prog 124 #[.agg #[.bool r,.bool s,.bool q,.slice A F.length cap],.string v] w fun e w'=>e = .returned (valV (keepO (styleB s v.data.toList) (cleanD v.data.toList))) /\ Below w.heap.size w w':=by
 have HS:=hide hs;have HE:=hide hE;clear hs hE;obtain ⟨C,hC⟩:∃ C,str (cleanD v.data.toList) = C:=⟨_,rfl⟩
 have hCl:cleanD v.data.toList = C.data.toList:=by rw [<- hC,str_toList]
 have HC:=hide (fun w2 hE2=>cssClean_any v (Nat.le_trans HS.out (by decide)) w2 hE2);rw [hC] at HC;rw [hCl]
 by_cases hz:C.size = 0
 ·have e1:C.toList.isEmpty = true:=(size0 hz).2;have e2:(!C.toList.isEmpty) = false:=by rw [e1];rfl
  have hd:styleB s v.data.toList = false:=by unfold styleB;rw [hCl,<- bytes_list,e1];simp
  rw [hd];clear hd hCl hC hz;cases s
  all_goals
   go_enter Tryz.func124,Tryz.ntmps124;go_wp2_with fail;refine (HC.out _ (HE.out.kept (alloc_below _ _))).mono ?_;rintro e w1 ⟨rfl,hb1⟩;obtain ⟨c0,c1,c2,c3⟩:=(GBox.new w r _ q (.slice A F.length cap) 145).kept hb1;have HB:=hide ((alloc_below w _).trans (hb1.mono (by simp)));clear hb1;go_wp2_with fail;refine (onlyF_any _ _).mono ?_;rintro e wo ⟨rfl,rfl⟩;go_wp2_with fail;go_ret2;exact ⟨rfl,HB.out⟩
 ·have e1:C.toList.isEmpty = false:=(sizeP hz).2;have e2:(!C.toList.isEmpty) = true:=by rw [e1];rfl
  have hd:styleB s v.data.toList = s:=by unfold styleB;rw [hCl,<- bytes_list,e1];simp
  rw [hd];clear hd hCl hC hz;cases s
  ·go_enter Tryz.func124,Tryz.ntmps124;go_wp2_with fail;refine (HC.out _ (HE.out.kept (alloc_below _ _))).mono ?_;rintro e w1 ⟨rfl,hb1⟩;obtain ⟨c0,c1,c2,c3⟩:=(GBox.new w r _ q (.slice A F.length cap) 145).kept hb1;have HB:=hide ((alloc_below w _).trans (hb1.mono (by simp)));clear hb1;go_wp2_with fail;refine (onlyF_any _ _).mono ?_;rintro e wo ⟨rfl,rfl⟩;go_wp2_with fail;go_ret2;exact ⟨rfl,HB.out⟩
  ·go_enter Tryz.func124,Tryz.ntmps124;go_wp2_with fail;refine (HC.out _ (HE.out.kept (alloc_below _ _))).mono ?_;rintro e w1 ⟨rfl,hb1⟩;obtain ⟨c0,c1,c2,c3⟩:=(GBox.new w r _ q (.slice A F.length cap) 145).kept hb1;have HB:=hide ((alloc_below w _).trans (hb1.mono (by simp)));clear hb1;go_wp2_with fail;refine (onlyT_any _ _).mono ?_;rintro e wo ⟨rfl,rfl⟩;go_wp2_with fail;go_ret2;exact ⟨by rw [keepO,if_pos rfl,valV_some] <;> rfl,HB.out⟩
theorem gHref_any (r s q:Bool) (A:Option Addr) (F:List FileL) (cap:Nat) (v:ByteArray) (w:World) (hs:v.size <= 10000) (hE:EnvU w) :
  Calls Tryz.prog 122 #[.agg #[.bool r,.bool s,.bool q,.slice A F.length cap],.string v] w fun e w'=>e = .returned (valV (keepO (hrefB v.data.toList) (lkClean v.data.toList))) /\ Below w.heap.size w w':=by
 have HS:=hide hs;have HE:=hide hE;clear hs hE;have HKC:=hide (fun w2 hE2=>linkKind_any v w2 (Nat.le_trans HS.out (by decide)) hE2);rcases kind_cases (lkClean v.data.toList) with h | h | h | h | h | h
 ·have hd:hrefB v.data.toList = false:=by unfold hrefB;rw [h];rfl
  rw [hd];rw [h] at HKC;clear hd h;go_enter Tryz.func122,Tryz.ntmps122;go_wp2_with fail;refine (HKC.out _ (HE.out.kept (alloc_below _ _))).mono ?_;rintro e w1 ⟨rfl,hb1⟩;have HB:=hide ((alloc_below w _).trans (hb1.mono (by simp)));clear hb1;go_wp2_with fail;refine (linkClean_any v _ (Nat.le_trans HS.out (by decide)) (HE.out.kept HB.out)).mono ?_;rintro e w2 ⟨rfl,hb2⟩;have HB2:=hide (HB.out.trans (hb2.mono HB.out.size));clear hb2;go_wp2_with fail;refine (onlyF_any _ _).mono ?_;rintro e wo ⟨rfl,rfl⟩;go_wp2_with fail;go_ret2;exact ⟨rfl,HB2.out⟩
 iterate 3
  ·have hd:hrefB v.data.toList = true:=by unfold hrefB;rw [h];rfl
   rw [hd];rw [h] at HKC;clear hd h;go_enter Tryz.func122,Tryz.ntmps122;go_wp2_with fail;refine (HKC.out _ (HE.out.kept (alloc_below _ _))).mono ?_;rintro e w1 ⟨rfl,hb1⟩;have HB:=hide ((alloc_below w _).trans (hb1.mono (by simp)));clear hb1;go_wp2_with fail;refine (linkClean_any v _ (Nat.le_trans HS.out (by decide)) (HE.out.kept HB.out)).mono ?_;rintro e w2 ⟨rfl,hb2⟩;have HB2:=hide (HB.out.trans (hb2.mono HB.out.size));clear hb2;go_wp2_with fail;refine (onlyT_any _ _).mono ?_;rintro e wo ⟨rfl,rfl⟩;go_wp2_with fail;go_ret2;exact ⟨rfl,HB2.out⟩
 ·have hd:hrefB v.data.toList = false:=by unfold hrefB;rw [h];rfl
  rw [hd];rw [h] at HKC;clear hd h;go_enter Tryz.func122,Tryz.ntmps122;go_wp2_with fail;refine (HKC.out _ (HE.out.kept (alloc_below _ _))).mono ?_;rintro e w1 ⟨rfl,hb1⟩;have HB:=hide ((alloc_below w _).trans (hb1.mono (by simp)));clear hb1;go_wp2_with fail;refine (linkClean_any v _ (Nat.le_trans HS.out (by decide)) (HE.out.kept HB.out)).mono ?_;rintro e w2 ⟨rfl,hb2⟩;have HB2:=hide (HB.out.trans (hb2.mono HB.out.size));clear hb2;go_wp2_with fail;refine (onlyF_any _ _).mono ?_;rintro e wo ⟨rfl,rfl⟩;go_wp2_with fail;go_ret2;exact ⟨rfl,HB2.out⟩
 ·have hd:hrefB v.data.toList = false:=by unfold hrefB;rw [h];rfl
  rw [hd];rw [h] at HKC;clear hd h;go_enter Tryz.func122,Tryz.ntmps122;go_wp2_with fail;refine (HKC.out _ (HE.out.kept (alloc_below _ _))).mono ?_;rintro e w1 ⟨rfl,hb1⟩;have HB:=hide ((alloc_below w _).trans (hb1.mono (by simp)));clear hb1;go_wp2_with fail;refine (linkClean_any v _ (Nat.le_trans HS.out (by decide)) (HE.out.kept HB.out)).mono ?_;rintro e w2 ⟨rfl,hb2⟩;have HB2:=hide (HB.out.trans (hb2.mono HB.out.size));clear hb2;go_wp2_with fail;refine (onlyF_any _ _).mono ?_;rintro e wo ⟨rfl,rfl⟩;go_wp2_with fail;go_ret2;exact ⟨rfl,HB2.out⟩
def picO (F:List FileL) (i:Nat):Option (List UInt8):=if imgAt F i = true then some (attN i) else none
theorem picO_yes {F:List FileL} {i:Nat} (h:imgAt F i = true):valV (picO F i) = .tuple #[.string ((⟨#[97,116,116,58]⟩:ByteArray) ++ str (numL i)),.bool true]:=by
 unfold picO;rw [if_pos h,valV_str,attN,str_append];rfl
theorem picO_no {F:List FileL} {i:Nat} (h:imgAt F i = false):valV (picO F i) = .tuple #[.string ⟨#[]⟩,.bool false]:=by
 unfold picO;rw [if_neg (by rw [h];decide)];rfl
theorem img_has (f:FileL):Lib.hasPrefix (str f.kind).data.toList (⟨#[105,109,97,103,101,47]⟩:ByteArray).data.toList = imgB f:=rfl
theorem gPic_any (r s q:Bool) (A:Option Addr) (F:List FileL) (cap i:Nat) (w:World) (hF:FilesIn w (.slice A F.length cap) F) (hl:F.length <= 40) (hi:i <= 2147483647) :
  Calls Tryz.prog 179 #[.agg #[.bool r,.bool s,.bool q,.slice A F.length cap],.int .i64 i] w fun e w'=>e = .returned (valV (picO F i)) /\ Below w.heap.size w w':=by
 by_cases hlt:i < F.length
 ·have g1:decide ((F.length:Int) <= i) = false:=decide_eq_false (by omega);have g2:decide (F.length <= i) = false:=decide_eq_false (by omega);have hF2:=hF.kept (alloc_below w (.cells #[.bool r,.bool s,.bool q,.slice A F.length cap] 145));obtain ⟨a,rfl,d0,d1,d2,d3⟩:=hF2.at i _ (List.getElem?_eq_getElem hlt);have him:imgAt F i = imgB F[i]:=imgAt_at hlt;obtain ⟨f,hf⟩:∃ f,F[i] = f:=⟨_,rfl⟩
  rw [hf] at d1 him;obtain ⟨K,hK⟩:∃ K,str f.kind = K:=⟨_,rfl⟩
  rw [hK] at d1;have HC:=hide (fun w2=>Tryz.strings_HasPrefix K ⟨#[105,109,97,103,101,47]⟩ w2);rw [<- hK,img_has,<- him] at HC;rw [hK] at HC;have HI:=hide (fun w2=>Tryz.strconv_Itoa_small i (by omega) w2);have HN:Hid ((⟨(Lib.decDigits i).toArray⟩:ByteArray) = str (numL i)):=hide (by rw [dec_num i (by omega)];rfl);rw [HN.out] at HI;clear hF hF2 d0 d2 d3 him hK hf;cases hb:imgAt F i with
  | true =>
   have HV:=hide (picO_yes hb);rw [hb] at HC;clear hb;obtain ⟨c0,c1,c2,c3⟩:=GBox.new w r s q (.slice (some a) F.length cap) 145;go_enter Tryz.func179,Tryz.ntmps179;go_wp2_with fail;refine (HC.out _).mono ?_;rintro e w1 ⟨rfl,rfl⟩;go_wp2_with fail;refine (HI.out _).mono ?_;rintro e w1 ⟨rfl,rfl⟩;obtain ⟨X,hX⟩:∃ X,str (numL i) = X:=⟨_,rfl⟩
   have hXs:X.size <= 2:=by rw [<- hX,str_size];unfold numL;split <;> simp
   rw [hX];have HX:=hide hX;clear hX;go_wp2_with fail;go_ret2;exact ⟨by rw [HV.out,HX.out];rfl,alloc_below _ _⟩
  | false =>
   have HV:=hide (picO_no hb);rw [hb] at HC;clear hb;obtain ⟨c0,c1,c2,c3⟩:=GBox.new w r s q (.slice (some a) F.length cap) 145;go_enter Tryz.func179,Tryz.ntmps179;go_wp2_with fail;refine (HC.out _).mono ?_;rintro e w1 ⟨rfl,rfl⟩;go_wp2_with fail;go_ret2;exact ⟨by rw [HV.out];rfl,alloc_below _ _⟩
 ·have hn:imgAt F i = false:=imgAt_off (by omega);have g1:decide ((F.length:Int) <= i) = true:=decide_eq_true (by omega);have g2:decide (F.length <= i) = true:=decide_eq_true (by omega);have HV:=hide (picO_no hn);clear hn hF;obtain ⟨c0,c1,c2,c3⟩:=GBox.new w r s q (.slice A F.length cap) 145;go_enter Tryz.func179,Tryz.ntmps179;go_wp2_with fail;go_ret2;exact ⟨by rw [HV.out];rfl,alloc_below _ _⟩
end Go.Proofs.YtmgpmdfmkdhfgaaGreatDoor
namespace Go.Proofs.YtmgpmdfmkdhfgaaGreatDoor
open Go.RowKit Go.Maps Go.WideShapes Go.WideMaps
open Go.ChangeMaps (setBlock heap_setBlock_other)
set_option linter.unusedVariables false
set_option linter.unusedSimpArgs false
set_option maxRecDepth 100000
theorem keyedT:Keyed Tryz.prog 9:=string_keyed Tryz.underlying9
def putF {α:Type} (f:List UInt8 -> Option α) (k:List UInt8) (v:α):List UInt8 -> Option α:=fun y=>if y = k then some v else f y
def Turned (b:Nat) (w w':World):Prop:=w.heap.size = w'.heap.size /\ (∀ k,k ≠ b -> w'.heap[k]? = w.heap[k]?) /\ ∀ B,B <= b -> Below B w w'
theorem turned_of {b:Nat} {w w':World} (h:w.mapTurned w' b):Turned b w w':=by
 have hg:=h.grown;obtain ⟨es,clock,es',clock',hb,rfl⟩:=h;exact ⟨by simp [setBlock],fun k hk=>heap_setBlock_other hb _ (fun e=>hk e),fun B hB=>⟨rfl,rfl,rfl,by simp [setBlock],fun k hk=>heap_setBlock_other hb _ (fun e=>by omega)⟩⟩
end Go.Proofs.YtmgpmdfmkdhfgaaGreatDoor
namespace Go.Proofs.YtmgpmdfmkdhfgaaGreatDoor
open Go.RowKit Go.Maps Go.WideShapes Go.WideMaps
open Go.ChangeMaps (setBlock heap_setBlock_other)
set_option linter.unusedVariables false
set_option linter.unusedSimpArgs false
set_option maxRecDepth 100000
def heldElem (v:Value):Option (DataW Value × List MemPlace):=some (.held v,[])
def FMap (w:World) (b n:Nat) (f:List UInt8 -> Option Value):Prop :=
  ∃ D:DataW Value,w.ownsMap Tryz.prog 9 heldElem b n D /\ IsMap D /\
    ∀ s:List UInt8,∀ v,f s = some v -> D.atKey (.string s) .nil = .held v
theorem FMap.made (w:World):FMap (w.alloc (.map #[] 0)) w.heap.size 0 (fun _=>none):=⟨_,World.ownsMap_made w Tryz.prog _ _,isMap_empty,fun s v h=>by cases h⟩
theorem FMap.same {w w':World} {b n:Nat} {f:List UInt8 -> Option Value} (h:FMap w b n f) (e:w'.heap[b]? = w.heap[b]?):FMap w' b n f:=by
 obtain ⟨D,⟨es,clock,hb,r⟩,h2⟩:=h;exact ⟨D,⟨es,clock,e.trans hb,r⟩,h2⟩
theorem FMap.lt {w:World} {b n:Nat} {f:List UInt8 -> Option Value} (h:FMap w b n f):b < w.heap.size:=by obtain ⟨D,h1,_⟩:=h;exact h1.lt
theorem FMap.kept {w w':World} {b n:Nat} {f:List UInt8 -> Option Value} (h:FMap w b n f) (hb:Below w.heap.size w w'):FMap w' b n f:=h.same (hb.block b h.lt)
theorem FMap.look {t e:TypeId} {w:World} {b n:Nat} {f:List UInt8 -> Option Value} (h:FMap w b n f) (ht:Tryz.prog.underlying t = some (.map 9 e)) {z:Value} (hz:(zeroValue e).run Tryz.prog w = .ok z w)
  (s:ByteArray) (hs:s.size <= maxLen) (v:Value) (hv:f s.data.toList = some v) :
  (Instr.lookup t (.map (some b)) (.string s) false).run Tryz.prog w = .ok v w:=by
 obtain ⟨D,⟨es,clock,hb,F,_,rfl⟩,h2,h3⟩:=h;have g:=h3 s.data.toList v hv;rcases Maps.fit_look false keyedT ht hz hb F (keyOf_string_mk Tryz.underlying9 hs) with ⟨hrun,_,hat⟩ | ⟨e0,y,_,_,hrun,hRv,hat,_⟩
 ·rw [hat] at g;cases g
 ·have hy:y.1 = .held e0.val:=by
   unfold heldElem at hRv;injection hRv with hRv;rw [<- hRv]
  rw [hat,hy] at g;injection g with g;rw [hrun,<- g];rfl
theorem FMap.put {t e:TypeId} {w:World} {b n:Nat} {f:List UInt8 -> Option Value} (h:FMap w b n f) (ht:Tryz.prog.underlying t = some (.map 9 e)) (hn:n < maxLen) (s:ByteArray) (v:Value) (hs:s.size <= maxLen) :
  ∃ w',(Instr.mapUpdate t (.map (some b)) (.string s) v).run Tryz.prog w = .ok () w' /\ FMap w' b (n + 1) (putF f s.data.toList v) /\ Turned b w w':=by
 obtain ⟨D,h1,h2,h3⟩:=h;obtain ⟨w',hrun,r1,r2⟩:=h1.store keyedT ht hn (keyOf_string_mk Tryz.underlying9 hs) (show heldElem v = some (.held v,[]) from rfl);refine ⟨w',hrun,⟨_,r1,h2.put _ _,fun y u hu=>?_⟩,turned_of r2⟩;unfold putF at hu
 by_cases e:y = s.data.toList
 ·subst e;rw [if_pos rfl] at hu;injection hu with hu;rw [<- hu];exact atKey_put_same h2 (show WideAt.IsKeyLit (.string s.data.toList) from trivial) _ _
 ·have hne:(Lit.string y) ≠ (Lit.string s.data.toList):=fun h=>e (by injection h)
  rw [if_neg e] at hu;rw [atKey_put_other hne _ _];exact h3 y u hu
end Go.Proofs.YtmgpmdfmkdhfgaaGreatDoor
namespace Go.Proofs.YtmgpmdfmkdhfgaaGreatDoor
open Go.RowKit
set_option linter.unusedVariables false
set_option linter.unusedSimpArgs false
set_option maxRecDepth 100000
set_option maxHeartbeats 16000000
def judF (gv:Value):List UInt8 -> Option Value :=
  (putF (putF (putF (putF (putF (putF (putF (putF (putF (putF (putF (fun _=>none) [104,114,101,102] (.func (.func 122) #[gv] #[])) [115,114,99] (.func (.func 123) #[gv] #[])) [115,116,121,108,101] (.func (.func 124) #[gv] #[])) [119,105,100,116,104] (.func (.func 125) #[gv] #[])) [104,101,105,103,104,116] (.func (.func 125) #[gv] #[])) [115,116,97,114,116] (.func (.func 125) #[gv] #[])) [118,97,108,117,101] (.func (.func 125) #[gv] #[])) [100,105,114] (.func (.func 126) #[gv] #[])) [108,97,110,103] (.func (.func 127) #[gv] #[])) [116,105,116,108,101] (.func (.func 128) #[gv] #[])) [97,108,116] (.func (.func 128) #[gv] #[]))
theorem judF_href (gv:Value):judF gv [104,114,101,102] = some (.func (.func 122) #[gv] #[]):=rfl
theorem judF_src (gv:Value):judF gv [115,114,99] = some (.func (.func 123) #[gv] #[]):=rfl
theorem judF_style (gv:Value):judF gv [115,116,121,108,101] = some (.func (.func 124) #[gv] #[]):=rfl
theorem judF_width (gv:Value):judF gv [119,105,100,116,104] = some (.func (.func 125) #[gv] #[]):=rfl
theorem judF_height (gv:Value):judF gv [104,101,105,103,104,116] = some (.func (.func 125) #[gv] #[]):=rfl
theorem judF_start (gv:Value):judF gv [115,116,97,114,116] = some (.func (.func 125) #[gv] #[]):=rfl
theorem judF_value (gv:Value):judF gv [118,97,108,117,101] = some (.func (.func 125) #[gv] #[]):=rfl
theorem judF_dir (gv:Value):judF gv [100,105,114] = some (.func (.func 126) #[gv] #[]):=rfl
theorem judF_lang (gv:Value):judF gv [108,97,110,103] = some (.func (.func 127) #[gv] #[]):=rfl
theorem judF_title (gv:Value):judF gv [116,105,116,108,101] = some (.func (.func 128) #[gv] #[]):=rfl
theorem judF_alt (gv:Value):judF gv [97,108,116] = some (.func (.func 128) #[gv] #[]):=rfl
theorem mapT_ty:Tryz.prog.underlying 147 = some (.map 9 146):=Tryz.underlying147
theorem zeroFn (w:World):(zeroValue 146).run Tryz.prog w = .ok .nilFunc w:=by kernel_rfl
theorem GBox.below {w w':World} {b B:Nat} {r s q:Bool} {v:Value} (h:GBox w b r s q v) (hb:Below B w w') (hB:b < B):GBox w' b r s q v:=by
 obtain ⟨h0,h1,h2,h3⟩:=h;exact ⟨(hb.cell (p:=⟨b,0,none⟩) hB).trans h0,(hb.cell (p:=⟨b,1,none⟩) hB).trans h1,(hb.cell (p:=⟨b,2,none⟩) hB).trans h2,(hb.cell (p:=⟨b,3,none⟩) hB).trans h3⟩
theorem judges_any (r s q:Bool) (A:Option Addr) (n cap:Nat) (w:World) :
  Calls Tryz.prog 105 #[.agg #[.bool r,.bool s,.bool q,.slice A n cap]] w fun e w'=>e = .returned (.map (some (w.heap.size + 1))) /\ FMap w' (w.heap.size + 1) 11 (judF (.agg #[.bool r,.bool s,.bool q,.slice A n cap])) /\ Below w.heap.size w w':=by
 have hmf:∀ (fn:Fn) (first cap:Array Value) (w:World),(Instr.makeFunc fn first cap).run Tryz.prog w = .ok (.func fn first cap) w:=fun _ _ _ _=>rfl
 have hmm:=@run_makeMap Tryz.prog;obtain ⟨gv,hgv⟩:∃ gv:Value,gv = .agg #[.bool r,.bool s,.bool q,.slice A n cap]:=⟨_,rfl⟩
 obtain ⟨W0,hW0⟩:∃ W0,W0 = (w.alloc (.cells #[.bool r,.bool s,.bool q,.slice A n cap] 145)).alloc (.map #[] 0):=⟨_,rfl⟩
 have F0:=FMap.made (w.alloc (.cells #[.bool r,.bool s,.bool q,.slice A n cap] 145));have hz:(w.alloc (.cells #[.bool r,.bool s,.bool q,.slice A n cap] 145)).heap.size = w.heap.size + 1:=World.size_alloc _ _;rw [hz,<- hW0] at F0;have B0:Below w.heap.size w W0:=by rw [hW0];exact ((Below.refl _ _).alloc (Nat.le_refl _) _).alloc (by rw [hz];omega) _
 have G0:GBox W0 w.heap.size r s q (.slice A n cap):=by
  rw [hW0];refine (GBox.new w r s q (.slice A n cap) 145).below (B:=w.heap.size + 1) ?_ (Nat.lt_succ_self _);rw [<- hz];exact (Below.refl _ _).alloc (Nat.le_refl _) _
 obtain ⟨W1,hr1,F1,T1⟩:=F0.put mapT_ty (by decide) ⟨#[104,114,101,102]⟩ (.func (.func 122) #[gv] #[]) (by decide);have B1:=B0.trans (T1.2.2 w.heap.size (by omega));have G1:=G0.below (T1.2.2 (w.heap.size + 1) (Nat.le_refl _)) (Nat.lt_succ_self _);obtain ⟨W2,hr2,F2,T2⟩:=F1.put mapT_ty (by decide) ⟨#[115,114,99]⟩ (.func (.func 123) #[gv] #[]) (by decide);have B2:=B1.trans (T2.2.2 w.heap.size (by omega));have G2:=G1.below (T2.2.2 (w.heap.size + 1) (Nat.le_refl _)) (Nat.lt_succ_self _);obtain ⟨W3,hr3,F3,T3⟩:=F2.put mapT_ty (by decide) ⟨#[115,116,121,108,101]⟩ (.func (.func 124) #[gv] #[]) (by decide);have B3:=B2.trans (T3.2.2 w.heap.size (by omega));have G3:=G2.below (T3.2.2 (w.heap.size + 1) (Nat.le_refl _)) (Nat.lt_succ_self _);obtain ⟨W4,hr4,F4,T4⟩:=F3.put mapT_ty (by decide) ⟨#[119,105,100,116,104]⟩ (.func (.func 125) #[gv] #[]) (by decide);have B4:=B3.trans (T4.2.2 w.heap.size (by omega));have G4:=G3.below (T4.2.2 (w.heap.size + 1) (Nat.le_refl _)) (Nat.lt_succ_self _);obtain ⟨W5,hr5,F5,T5⟩:=F4.put mapT_ty (by decide) ⟨#[104,101,105,103,104,116]⟩ (.func (.func 125) #[gv] #[]) (by decide);have B5:=B4.trans (T5.2.2 w.heap.size (by omega));have G5:=G4.below (T5.2.2 (w.heap.size + 1) (Nat.le_refl _)) (Nat.lt_succ_self _);obtain ⟨W6,hr6,F6,T6⟩:=F5.put mapT_ty (by decide) ⟨#[115,116,97,114,116]⟩ (.func (.func 125) #[gv] #[]) (by decide)
 have B6:=B5.trans (T6.2.2 w.heap.size (by omega));have G6:=G5.below (T6.2.2 (w.heap.size + 1) (Nat.le_refl _)) (Nat.lt_succ_self _);obtain ⟨W7,hr7,F7,T7⟩:=F6.put mapT_ty (by decide) ⟨#[118,97,108,117,101]⟩ (.func (.func 125) #[gv] #[]) (by decide);have B7:=B6.trans (T7.2.2 w.heap.size (by omega));have G7:=G6.below (T7.2.2 (w.heap.size + 1) (Nat.le_refl _)) (Nat.lt_succ_self _);obtain ⟨W8,hr8,F8,T8⟩:=F7.put mapT_ty (by decide) ⟨#[100,105,114]⟩ (.func (.func 126) #[gv] #[]) (by decide);have B8:=B7.trans (T8.2.2 w.heap.size (by omega));have G8:=G7.below (T8.2.2 (w.heap.size + 1) (Nat.le_refl _)) (Nat.lt_succ_self _);obtain ⟨W9,hr9,F9,T9⟩:=F8.put mapT_ty (by decide) ⟨#[108,97,110,103]⟩ (.func (.func 127) #[gv] #[]) (by decide);have B9:=B8.trans (T9.2.2 w.heap.size (by omega));have G9:=G8.below (T9.2.2 (w.heap.size + 1) (Nat.le_refl _)) (Nat.lt_succ_self _);obtain ⟨W10,hr10,F10,T10⟩:=F9.put mapT_ty (by decide) ⟨#[116,105,116,108,101]⟩ (.func (.func 128) #[gv] #[]) (by decide);have B10:=B9.trans (T10.2.2 w.heap.size (by omega));have G10:=G9.below (T10.2.2 (w.heap.size + 1) (Nat.le_refl _)) (Nat.lt_succ_self _);obtain ⟨W11,hr11,F11,T11⟩:=F10.put mapT_ty (by decide) ⟨#[97,108,116]⟩ (.func (.func 128) #[gv] #[]) (by decide);have B11:=B10.trans (T11.2.2 w.heap.size (by omega))
 have G11:=G10.below (T11.2.2 (w.heap.size + 1) (Nat.le_refl _)) (Nat.lt_succ_self _);have HF:Hid (FMap W11 (w.heap.size + 1) 11 (judF gv)):=hide F11;have HB:=hide B11;obtain ⟨c0a,c0b,c0c,c0d⟩:=G0;obtain ⟨c1a,c1b,c1c,c1d⟩:=G1;obtain ⟨c2a,c2b,c2c,c2d⟩:=G2;obtain ⟨c3a,c3b,c3c,c3d⟩:=G3;obtain ⟨c4a,c4b,c4c,c4d⟩:=G4;obtain ⟨c5a,c5b,c5c,c5d⟩:=G5;obtain ⟨c6a,c6b,c6c,c6d⟩:=G6;obtain ⟨c7a,c7b,c7c,c7d⟩:=G7;obtain ⟨c8a,c8b,c8c,c8d⟩:=G8;obtain ⟨c9a,c9b,c9c,c9d⟩:=G9;obtain ⟨c10a,c10b,c10c,c10d⟩:=G10;clear F0 F1 F2 F3 F4 F5 F6 F7 F8 F9 F10 F11 B0 B1 B2 B3 B4 B5 B6 B7 B8 B9 B10 B11 T1 T2 T3 T4 T5 T6 T7 T8 T9 T10 T11 G11;rw [hgv] at HF;rw [hgv] at hr1 hr2 hr3 hr4 hr5 hr6 hr7 hr8 hr9 hr10 hr11;rw [hW0] at hr1 c0a c0b c0c c0d;clear hgv hW0 hz;go_enter Tryz.func105,Tryz.ntmps105;go_wp2_with fail;go_ret;exact ⟨rfl,HF.out,HB.out⟩
theorem judgesE_any (r s q:Bool) (A:Option Addr) (n cap:Nat) (w:World) :
  Calls Tryz.prog 105 #[.agg #[.bool r,.bool s,.bool q,.slice A n cap]] w fun e w'=>∃ b,e = .returned (.map (some b)) /\ FMap w' b 11 (judF (.agg #[.bool r,.bool s,.bool q,.slice A n cap])) /\ Below w.heap.size w w' :=
 (judges_any r s q A n cap w).mono fun _ _ ⟨h1,h2,h3⟩=>⟨_,h1,h2,h3⟩
def findV (o:Option Nat):Value:=.tuple #[.int .i64 ((o.getD 0:Nat):Int),.bool o.isSome]
theorem findK_bound (d:List UInt8):∀ (F:List FileL) (k n:Nat),findK d F k = some n -> k <= n /\ n < k + F.length
 | [],k,n,h=>by cases h
 | f :: r,k,n,h=>by
  unfold findK at h;split at h
  ·injection h with h;subst h;exact ⟨Nat.le_refl _,by simp⟩
  ·have:=findK_bound d r (k + 1) n h;simp only [List.length_cons];omega
theorem findL_lt {F:List FileL} {d:List UInt8} {n:Nat} (h:findL F d = some n):n < F.length:=by
 unfold findL at h;split at h
 ·cases h
 ·have:=findK_bound d F 0 n h;omega
theorem findK_hit {d:List UInt8} {f:FileL} {r:List FileL} {k:Nat} (h:(f.id == d) = true):findK d (f :: r) k = some k:=by unfold findK;rw [if_pos h]
theorem findK_miss {d:List UInt8} {f:FileL} {r:List FileL} {k:Nat} (h:(f.id == d) = false):findK d (f :: r) k = findK d r (k + 1):=by
 rw [findK,if_neg (by rw [h];decide)]
theorem attFind_any (v:Value) (F:List FileL) (d:ByteArray) (w:World) (h:FilesIn w v F) (hl:F.length <= 1000000) :
  Calls Tryz.prog 178 #[v,.string d] w fun e w'=>e = .returned (findV (findL F d.data.toList)) /\ Below w.heap.size w w':=by
 obtain ⟨A,cap,rfl⟩:=h.form;have H:=hide h;clear h
 by_cases hz:d.size = 0
 ·have h0:d = ⟨#[]⟩:=ext_list (size0 hz).1;subst h0;go_enter Tryz.func178,Tryz.ntmps178;go_wp2_with fail;go_ret2;exact ⟨rfl,Below.refl _ _⟩
 ·have e1:d.toList.isEmpty = false:=(sizeP hz).2;have HR:Hid (findL F d.data.toList = findK d.data.toList F 0):=hide (if_neg (sizeP hz).1);clear hz;go_enter Tryz.func178,Tryz.ntmps178;go_wp2_with fail;go_loopw [12] (fun iv wr=>∃ k:Nat,k <= F.length /\ iv = .int .i64 k /\ Hid (Below w.heap.size w wr) /\ Hid (findK d.data.toList (F.drop k) k = findK d.data.toList F 0)) (fun iv _=>F.length - (intOf iv).toNat)
  case atStart=>exact ⟨0,Nat.zero_le _,rfl,hide (Below.refl _ _),hide rfl⟩
  case round =>
   obtain ⟨k,hk,rfl,HB,HG⟩:=hrel;have hk6:k <= 1000000:=by omega
   by_cases hlt:k < F.length
   ·obtain ⟨a,rfl,c0,c1,c2,c3⟩:=(H.out.kept HB.out).at k _ (List.getElem?_eq_getElem hlt);have hdr:F.drop k = F[k] :: F.drop (k + 1):=List.drop_eq_getElem_cons hlt;have HG2:=HG.out;rw [hdr] at HG2;obtain ⟨p,hp⟩:∃ p,p = F[k]'hlt:=⟨_,rfl⟩
    rw [<- hp] at c0 c1 c2 c3 HG2;obtain ⟨P0,hP0⟩:∃ P0,P0 = str p.name:=⟨_,rfl⟩
    obtain ⟨P1,hP1⟩:∃ P1,P1 = str p.kind:=⟨_,rfl⟩
    obtain ⟨P2,hP2⟩:∃ P2,P2 = str p.id:=⟨_,rfl⟩
    obtain ⟨P3,hP3⟩:∃ P3,P3 = str p.bytes:=⟨_,rfl⟩
    rw [<- hP0] at c0;rw [<- hP1] at c1;rw [<- hP2] at c2;rw [<- hP3] at c3;have HLT:=hide hlt;have HBA:Hid (∀ o,Below w.heap.size w (wr.alloc o)):=hide (fun o=>HB.out.alloc HB.out.size o);cases he:(p.id == d.data.toList) with
    | true =>
     have t1:(P2.toList == d.toList) = true:=by rw [hP2,str_list,bytes_list];exact he
     have HV:Hid (findV (findL F d.data.toList) = .tuple #[.int .i64 k,.bool true]):=hide (by
      rw [HR.out,<- HG2,findK_hit he];rfl)
     clear he hdr HG2 hp hP0 hP1 hP2 hP3;go_wp2_with fail;go_ret2;exact ⟨by rw [HV.out] <;> rfl,HBA.out _⟩
    | false =>
     have t1:(P2.toList == d.toList) = false:=by rw [hP2,str_list,bytes_list];exact he
     have HGN:Hid (findK d.data.toList (F.drop (k + 1)) (k + 1) = findK d.data.toList F 0):=hide (by
      rw [<- HG2,findK_miss he])
     clear he hdr HG2 hp hP0 hP1 hP2 hP3;go_wp2_with fail;go_roundw
     case rel=>exact ⟨k + 1,HLT.out,by go_num,hide (HBA.out _),HGN⟩
     case measure=>simp [intOf];have:=HLT.out;omega
   ·have HV:Hid (findV (findL F d.data.toList) = .tuple #[.int .i64 0,.bool false]):=hide (by
     rw [HR.out,<- HG.out,List.drop_eq_nil_of_le (by omega)];rfl)
    go_wp2_with fail;go_ret2;exact ⟨by rw [HV.out] <;> rfl,HB.out⟩
end Go.Proofs.YtmgpmdfmkdhfgaaGreatDoor
