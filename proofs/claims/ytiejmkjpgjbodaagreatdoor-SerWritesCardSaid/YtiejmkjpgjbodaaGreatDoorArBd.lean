import Derived.Test.YtiejmkjpgjbodaaGreatDoorArSt
import Derived.Test.YtiejmkjpgjbodaaGreatDoorArMd
import Derived.Test.YtiejmkjpgjbodaaGreatDoorRef13K
import Derived.Test.YtiejmkjpgjbodaaGreatDoorBaseR
namespace Go.Proofs.YtiejmkjpgjbodaaGreatDoor
open Go.RowKit
set_option linter.unusedVariables false
set_option linter.unusedSimpArgs false
set_option maxRecDepth 100000
theorem attrsC_of {w:World} {v:Value} {l:List AtL} (h:AttrsIn w v l):AttrsC (fun b=>b < w.heap.size) w v l:=by
 refine ⟨h,fun a n c e hl=>?_⟩;rcases h with ⟨_,h2⟩ | ⟨a',cap,h1,_,_,h4⟩
 ·exact absurd h2 hl
 ·rw [e] at h1;injection h1 with h1 _ _;injection h1 with h1;subst h1;cases l with
  | nil=>exact absurd rfl hl
  | cons f r =>
   have h5:=(h4 0 f rfl).1;rw [Nat.zero_mul,Addr.add_zero'] at h5;exact World.block_lt_of_cell? _ _ h5
def ar0:ArV:=⟨⟨[],[],[]⟩,.slice none 0 0,[],.slice none 0 0⟩
theorem ab_new (w:World):AB w.heap.size (w.heap.size + 1 + 1) (.slice (some ⟨w.heap.size,0,none⟩) 1 1) (.slice (some ⟨w.heap.size + 1,0,none⟩) 1 1) [ar0] [0] w
  (((w.alloc (.cells #[.string ⟨#[]⟩,.slice none 0 0,.string ⟨#[]⟩,.slice none 0 0,.slice none 0 0] 65)).alloc (.cells #[.int .i64 0] 3)).alloc (.cells #[.slice (some ⟨w.heap.size,0,none⟩) 1 1,.slice (some ⟨w.heap.size + 1,0,none⟩) 1 1] 68)):=by
 obtain ⟨w1,hw1⟩:∃ w1,w1 = w.alloc (.cells #[.string ⟨#[]⟩,.slice none 0 0,.string ⟨#[]⟩,.slice none 0 0,.slice none 0 0] 65):=⟨_,rfl⟩
 obtain ⟨w2,hw2⟩:∃ w2,w2 = w1.alloc (.cells #[.int .i64 0] 3):=⟨_,rfl⟩
 have z1:w1.heap.size = w.heap.size + 1:=by rw [hw1,World.size_alloc]
 have z2:w2.heap.size = w.heap.size + 1 + 1:=by rw [hw2,World.size_alloc,z1]
 have r1:=(World.ownsRow_lit (base:=w.heap.size) (e:=65) (size:=5) w #[.string ⟨#[]⟩,.slice none 0 0,.string ⟨#[]⟩,.slice none 0 0,.slice none 0 0] 1 (Nat.le_refl _) (by decide) rfl)
 rw [<- hw1] at r1;have r2:=(World.ownsRow_lit (base:=w.heap.size) (e:=3) (size:=1) w1 #[.int .i64 0] 1 (by omega) (by decide) rfl)
 rw [<- hw2,z1] at r2;have r1':=(r1.alloc (.cells #[.int .i64 0] 3))
 rw [<- hw2] at r1';rw [<- hw1,<- hw2];have hb1:Below w.heap.size w w1:=by rw [hw1];exact below_one w _
 have hb2:Below w.heap.size w w2:=by rw [hw2];exact bl_two hb1 (below_one w1 _)
 refine ⟨?_,r1'.alloc _,r2.alloc _,fun i p hp=>?_,fun i p hp=>?_,fun i j p q hij hp hq=>?_,fun i p hp=>?_,by omega,bl_two hb2 (below_one w2 _),by rw [World.size_alloc,z2];omega⟩
 ·have:=heap_alloc_new w2 (.cells #[.slice (some ⟨w.heap.size,0,none⟩) 1 1,.slice (some ⟨w.heap.size + 1,0,none⟩) 1 1] 68);rw [z2] at this;exact this
 ·obtain rfl:=List.mem_singleton.1 (List.mem_of_getElem? hp);exact ⟨.inl ⟨rfl,rfl⟩,fun a n c e=>(by cases e)⟩
 ·obtain rfl:=List.mem_singleton.1 (List.mem_of_getElem? hp);exact World.ownsRow_nil _ _ _ 1
 ·obtain rfl:=List.mem_singleton.1 (List.mem_of_getElem? hp);exact .inl rfl
 ·obtain rfl:=List.mem_singleton.1 (List.mem_of_getElem? hp);exact .inl rfl
structure BdI (B b:Nat) (L:List TokL) (W0 wr:World) (k:Nat) (r o:Value) (l:List ArV) (opn:List Nat):Prop where
  ab:AB B b r o l opn W0 wr
  ok:ArOK (arL l) opn ((L.take k).foldl tokB ([rootL],0))
theorem bd_next {L:List TokL} {k:Nat} {t:TokL} (h:L[k]? = some t) (s:BsL):(L.take (k + 1)).foldl tokB s = tokB ((L.take k).foldl tokB s) t:=by
 rw [List.take_add_one,h,List.foldl_append];rfl
set_option maxHeartbeats 16000000 in
theorem refBuild_any (s:ByteArray) (w:World) (hs:s.size <= 8000000) :
  Calls Tryz.prog 13 #[.string s] w fun e w'=>∃ u,e = .returned u /\ NodesIn w' u (buildP (scanL decE [] [] s.data.toList)) /\ Below w.heap.size w w':=by
 have HSC:=hide (scan13_any s w hs);obtain ⟨hw1,hw2⟩:=scanE_w s;have hform:=(scan_forms decE _ s.data.toList [] [] (Nat.le_refl _) ⟨fun t h=>(by cases h),fun i a b h=>by simp at h⟩ (fun t h=>by simp at h)).1.1;obtain ⟨L,hL⟩:∃ L,L = scanL decE [] [] s.data.toList:=⟨_,rfl⟩
 rw [<- hL] at HSC hw1 hw2 hform ⊢;have HW:=hide (And.intro hw1 (And.intro hw2 hform));have HSZ:=hide hs;have HOKS:Hid (∀ k,OkS ((L.take k).foldl tokB ([rootL],0))):=hide fun k=>(fold_ok (L.take k) ok_root).1
 have HTL:Hid (∀ k,TailsLe 64000000000000 ((L.take k).foldl tokB ([rootL],0)).1):=hide fun k=>by
  have h5:=tails_fold s.size (L.take k) 0 ([rootL],0) (fun p hp=>by obtain rfl:=List.mem_singleton.1 hp;exact Nat.le_refl _) (fun t ht=>hw1 t (List.mem_of_mem_take ht));intro p hp;refine Nat.le_trans (h5 p hp) ?_;have h7:(L.take k).length <= 8000000:=by rw [List.length_take];omega
  have h8:=Nat.mul_le_mul h7 hs;omega
 clear hw1 hw2 hform hs hL;go_enter Tryz.func13,Tryz.ntmps13;go_wp2_with fail;refine HSC.out.mono ?_;rintro e w2 ⟨v,vs,rfl,ht,hmv,hb⟩;obtain ⟨VA,VC,rfl⟩:=ht.slice_len;have hti:=ht.in;rw [hmv] at hti;have hvl:vs.length = L.length:=by rw [<- hmv,List.length_map]
 rw [hvl] at hti ⊢;have hab:=ab_new w2;have HTI:=hide hti;have HB2:=hide hb;obtain ⟨W,hW⟩:∃ W,W = (((w2.alloc (.cells #[.string ⟨#[]⟩,.slice none 0 0,.string ⟨#[]⟩,.slice none 0 0,.slice none 0 0] 65)).alloc (.cells #[.int .i64 0] 3)).alloc (.cells #[.slice (some ⟨w2.heap.size,0,none⟩) 1 1,.slice (some ⟨w2.heap.size + 1,0,none⟩) 1 1] 68)):=⟨_,rfl⟩
 rw [<- hW] at hab;have HI:Hid (BdI w2.heap.size (w2.heap.size + 1 + 1) L w2 W 0 (.slice (some ⟨w2.heap.size,0,none⟩) 1 1) (.slice (some ⟨w2.heap.size + 1,0,none⟩) 1 1) [ar0] [0]):=hide ⟨hab,arOK_start⟩;have HWW:=hide hW;obtain ⟨n,hn⟩:∃ n,n = L.length:=⟨_,rfl⟩
 rw [<- hn] at HTI ⊢;have hn8:n <= 8000000:=by have:=HW.out.2.1;have:=HSZ.out;omega
 have HN:=hide hn;clear ht hmv hti hvl hab hb hW hn HSC;go_wp2_with fail;rw [<- HWW.out];go_loopw [5] (fun i wr=>∃ (k:Nat) (r o:Value) (l:List ArV) (opn:List Nat),k <= n /\ i = .int .i64 k /\ Hid (BdI w2.heap.size (w2.heap.size + 1 + 1) L w2 wr k r o l opn)) (fun i _=>n - (intOf i).toNat)
 case atStart=>exact ⟨0,_,_,_,_,Nat.zero_le _,rfl,HI⟩
 case round =>
  obtain ⟨k,r,o,l,opn,hk,rfl,HR⟩:=hrel
  by_cases hlt:k < n
  ·obtain ⟨t,hq⟩:∃ q,L[k]? = some q:=⟨_,List.getElem?_eq_getElem (by rw [<- HN.out];exact hlt)⟩
   have hmem:=List.mem_of_getElem? hq;have hti2:=HTI.out.kept HR.out.ab.below;obtain ⟨a,d,y,ha,c1,c2,c3,c4,hA⟩:=hti2.at k (gOf t) (by rw [List.getElem?_map,hq];rfl);obtain ⟨a0,d0,y0,ha0,_,_,_,c40,hA0⟩:=HTI.out.at k (gOf t) (by rw [List.getElem?_map,hq];rfl);subst ha
   have hA2:AttrsC (fun g=>g < w2.heap.size) wr (.slice d t.attrs.length y) t.attrs:=by
    injection ha0 with ha0;subst ha0;have e:=(HR.out.ab.below.cell (World.block_lt_of_cell? _ _ c40)).trans c40;rw [c4] at e;injection e with e;have h1:=attrsC_of hA0;rw [<- e] at h1;exact h1.mono (fun g hg=>HR.out.ab.below.block g hg) (fun _ x=>x)
   have htw:=HW.out.1 t hmem;have htf:=(HW.out.2.2 t hmem).1;have hnx:=bd_next hq ([rootL],0);obtain ⟨X,hX⟩:∃ X,X = str t.name:=⟨_,rfl⟩
   obtain ⟨Y,hY⟩:∃ Y,Y = str t.text:=⟨_,rfl⟩
   replace c1:wr.cell? (a.add (k * 4)) = some (.int .i64 (t.kind:Int)):=c1;replace c2:wr.cell? { block:=(a.add (k * 4)).block,off:=(a.add (k * 4)).off + 1 } = some (.string (str t.name)):=c2;replace c3:wr.cell? { block:=(a.add (k * 4)).block,off:=(a.add (k * 4)).off + 3 } = some (.string (str t.text)):=c3;replace c4:wr.cell? { block:=(a.add (k * 4)).block,off:=(a.add (k * 4)).off + 2 } = some (.slice d t.attrs.length y):=c4;rw [<- hX] at c2;rw [<- hY] at c3;have HXY:=hide (And.intro hX hY);have HAT:=hide hA2;have HNX:=hide hnx;have HTW:=hide (And.intro htw htf);have tk0:decide ((k:Int) < (n:Int)) = true:=decide_eq_true (by omega);have tk1:(k:Int) < (n:Int):=by omega
   clear hq hmem hti2 hA ha0 c40 hA0 hA2 htw htf hnx hX hY
   by_cases k1:t.kind = 1
   ·have t1:((t.kind:Int) == 1) = true:=by rw [k1];rfl
    have HCH:Hid (Calls Tryz.prog 42 #[.pointer (some ⟨w2.heap.size + 1 + 1,0,none⟩),.string Y] wr fun e w'=>e = .returned (.tuple #[]) /\ ∃ r' o' l' opn',BdI w2.heap.size (w2.heap.size + 1 + 1) L w2 w' (k + 1) r' o' l' opn'):=hide (by
     have hok:=HR.out.ok;have hks:=HOKS.out k;have htl:=HTL.out k;obtain ⟨⟨st,m⟩,hm0⟩:∃ s,s = (L.take k).foldl tokB ([rootL],0):=⟨_,rfl⟩
     rw [<- hm0] at hok hks htl;cases st with
     | nil=>exact absurd rfl hks.1
     | cons p rr =>
      have h3:=HTW.out.1.1 k1;have h4:=HSZ.out;have h5:=htl p (List.mem_cons_self ..);refine (arChars_any _ _ r o l opn w2 wr HR.out.ab p rr m hok hks Y (by rw [HXY.out.2,str_toList];exact HTW.out.2 k1) (by rw [HXY.out.2,str_size];omega)).mono fun e w' ⟨h1,r',l',h6,h7⟩=>⟨h1,r',o,l',opn,h6,?_⟩
      rw [HNX.out];rw [<- hm0];unfold tokB;rw [if_pos k1];rw [HXY.out.2,str_toList] at h7;exact h7)
    clear k1;go_wp2_with fail;refine HCH.out.mono ?_;rintro e w6 ⟨rfl,r6,o6,l6,opn6,h6⟩;have H6:=hide h6;clear h6;go_wp2_with fail;go_roundw
    case rel=>exact ⟨k + 1,r6,o6,l6,opn6,by omega,by go_num,H6⟩
    case measure=>simp [intOf];omega
   ·have t1:((t.kind:Int) == 1) = false:=beq_eq_false_iff_ne.2 (by omega)
    by_cases k2:t.kind = 2
    ·have t2:((t.kind:Int) == 2) = true:=by rw [k2];rfl
     have HCH:Hid (Calls Tryz.prog 43 #[.pointer (some ⟨w2.heap.size + 1 + 1,0,none⟩),.agg #[.int .i64 (t.kind:Int),.string X,.slice d t.attrs.length y,.string Y]] wr fun e w'=>e = .returned (.tuple #[]) /\ ∃ r' o' l' opn',BdI w2.heap.size (w2.heap.size + 1 + 1) L w2 w' (k + 1) r' o' l' opn'):=hide (by
      refine (arStart_any _ _ r o l opn w2 wr HR.out.ab _ HR.out.ok (HOKS.out k) X Y _ _ t.attrs HAT.out (by rw [HXY.out.1,str_toList];exact HTW.out.1.2 k2)).mono fun e w' ⟨h1,r',o',l',opn',h6,h7⟩=>⟨h1,r',o',l',opn',h6,?_⟩
      rw [HNX.out];unfold tokB;rw [if_neg k1,if_pos k2];rw [HXY.out.1,HXY.out.2,str_toList,str_toList] at h7;have e:t = ⟨2,t.name,t.attrs,t.text⟩:=by cases t;simp only at k2;rw [k2]
      rw [e];exact h7)
     clear k1 k2;go_wp2_with fail;refine HCH.out.mono ?_;rintro e w6 ⟨rfl,r6,o6,l6,opn6,h6⟩;have H6:=hide h6;clear h6;go_wp2_with fail;go_roundw
     case rel=>exact ⟨k + 1,r6,o6,l6,opn6,by omega,by go_num,H6⟩
     case measure=>simp [intOf];omega
    ·have t2:((t.kind:Int) == 2) = false:=beq_eq_false_iff_ne.2 (by omega)
     by_cases k3:t.kind = 3
     ·have t3:((t.kind:Int) == 3) = true:=by rw [k3];rfl
      have HCH:Hid (Calls Tryz.prog 44 #[.pointer (some ⟨w2.heap.size + 1 + 1,0,none⟩),.string X] wr fun e w'=>e = .returned (.tuple #[]) /\ ∃ r' o' l' opn',BdI w2.heap.size (w2.heap.size + 1 + 1) L w2 w' (k + 1) r' o' l' opn'):=hide (by
       refine (arEndP_any _ _ r o l opn w2 wr HR.out.ab _ HR.out.ok (HOKS.out k) X).mono fun e w' ⟨h1,o',opn',h6,h7⟩=>⟨h1,r,o',l,opn',h6,?_⟩
       rw [HNX.out];unfold tokB;rw [if_neg k1,if_neg k2,if_pos k3];rw [HXY.out.1,str_toList] at h7;exact h7)
      clear k1 k2 k3;go_wp2_with fail;refine HCH.out.mono ?_;rintro e w6 ⟨rfl,r6,o6,l6,opn6,h6⟩;have H6:=hide h6;clear h6;go_wp2_with fail;go_roundw
      case rel=>exact ⟨k + 1,r6,o6,l6,opn6,by omega,by go_num,H6⟩
      case measure=>simp [intOf];omega
     ·have t3:((t.kind:Int) == 3) = false:=beq_eq_false_iff_ne.2 (by omega)
      have H6:Hid (BdI w2.heap.size (w2.heap.size + 1 + 1) L w2 wr (k + 1) r o l opn):=hide ⟨HR.out.ab,by
       rw [HNX.out];unfold tokB;rw [if_neg k1,if_neg k2,if_neg k3];exact HR.out.ok⟩
      clear k1 k2 k3;go_wp2_with fail;go_roundw
      case rel=>exact ⟨k + 1,r,o,l,opn,by omega,by go_num,H6⟩
      case measure=>simp [intOf];omega
  ·obtain rfl:k = n:=by omega
   have hok:=HR.out.ok;rw [HN.out,List.take_length] at hok;obtain ⟨h',ks,hot,hall,hres⟩:=arOK_end hok;obtain ⟨p,hp,hp1,hp2⟩:=arL_at hall;have hlen:=arLen hok;have hfew:=hok.few;obtain ⟨g,rc,rfl,-,-,-,-⟩:=own_form HR.out.ab.row (by omega);have d0:=HR.out.ab.c0;obtain ⟨_,_,_,_,d4,_⟩:=HR.out.ab.node hp;have hkr:=HR.out.ab.kids 0 p hp;obtain ⟨pA,pc,hpv,-,-⟩:=own_slice hkr;rw [hpv] at d4 hkr;rw [show 0 * 5 + 4 = 4 from rfl] at d4;have hbc:=(build_count L).1;have HMD:=hide (made_all w2.heap.size (w2.heap.size + 1 + 1) (.slice (some ⟨g,0,none⟩) l.length rc) o l opn hot w2 (by omega) ((buildP L).count + 1) (by omega) (.slice pA p.ks.length pc) p.ks (buildP L) wr (Nat.lt_succ_self _) HR.out.ab hkr (by rw [hp2];exact hres));have i1:(0:Int) < (l.length:Int):=by omega
   have HSZB:=hide HR.out.ab.size;have HBW:Hid (Below w.heap.size w wr):=hide (bl_two HB2.out HR.out.ab.below);clear hok hall hres hp hp1 hp2 hlen hfew hkr hpv hbc;go_wp2_with fail;refine HMD.out.mono ?_;rintro e w5 ⟨u,rfl,hn5,hb5⟩
   have HRES:Hid (NodesIn w5 u (buildP L) /\ Below w.heap.size w w5):=hide ⟨hn5.mono (fun _ _=>rfl) (fun b hb=>by
    have h1:=HSZB.out;have h2:=hb5.size;rcases hb with h | h
    ·omega
    ·exact h.2),bl_two HBW.out hb5⟩
   clear hn5 hb5;go_wp2_with fail;go_ret;exact ⟨_,rfl,HRES.out⟩
end Go.Proofs.YtiejmkjpgjbodaaGreatDoor
