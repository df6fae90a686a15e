import Derived.Test.YtmgpmdfmkdhfgaaGreatDoorTreeX
import Derived.Deep.LoopGhost
namespace Go.Proofs.YtmgpmdfmkdhfgaaGreatDoor
open Go.RowKit
set_option linter.unusedVariables false
set_option linter.unusedSimpArgs false
set_option maxRecDepth 100000
set_option maxHeartbeats 16000000 in
theorem treeBuild_any (s:ByteArray) (m:Int) (w:World) (hs:s.size <= 8000000) (hE:EnvE w) (hm:w.cell? ⟨0,0,none⟩ = some (.int .i64 m)) :
  Calls Tryz.prog 16 #[.string s] w fun e w'=>∃ v,e = .returned v /\ NodesIn w' v (buildP (scanL decE [] [] s.data.toList)) /\ Below w.heap.size w w':=by
 obtain ⟨W1,hW1⟩:∃ W1,W1 = ((w.alloc (.cells #[.string ⟨#[]⟩,.slice none 0 0,.string ⟨#[]⟩,.slice none 0 0,.slice none 0 0] 77)).alloc (.cells #[.slice (some ⟨w.heap.size,0,none⟩) 1 1,.int .i64 0] 67)):=⟨_,rfl⟩
 have hb0:=bs_new w;rw [<- hW1] at hb0;have HB0:=hide hb0;have hsc:=scan_any s m W1 (by omega) (hE.kept hb0.below) ((hb0.below.cell (p:=⟨0,0,none⟩) (World.block_lt_of_cell? _ _ hm)).trans hm);have HSC:=hide hsc;obtain ⟨hw1,hw2⟩:=scanE_w s;have hform:=(scan_forms decE _ s.data.toList [] [] (Nat.le_refl _) ⟨fun t h=>(by cases h),fun i a b h=>by simp at h⟩ (fun t h=>by simp at h)).1;have HW:=hide (And.intro hw1 (And.intro hw2 hform.1));have HSZ:=hide hs;have hmk:=make_part;have hmf:∀ (fn:Fn) (first cap:Array Value) (w:World),(Instr.makeFunc fn first cap).run Tryz.prog w = .ok (.func fn first cap) w:=fun _ _ _ _=>rfl
 have HK:=hide (enters_of Tryz.func35 (by kernel_rfl) rfl);have HM:=hide hm;clear hb0 hsc hw1 hw2 hform hs hE hm;go_enter Tryz.func16,Tryz.ntmps16;go_wp2_with fail;rw [<- hW1];refine HSC.out.mono ?_;rintro e w2 ⟨v,vs,rfl,ht,hmv,hb⟩;obtain ⟨VA,VC,rfl⟩:=ht.slice_len;obtain ⟨hw1,hw2,hw3⟩:=HW.out;rw [<- hmv] at hw1 hw2 hw3;have hvl:vs.length <= s.size:=by rw [List.length_map] at hw2;exact hw2
 have hprod:vs.length * s.size <= 64000000000000:=by
  have h1:=HSZ.out
  calc vs.length * s.size <= 8000000 * 8000000:=Nat.mul_le_mul (Nat.le_trans hvl h1) h1
   _ = 64000000000000:=by decide
 have HT:=hide ht;have HB2:=hide ((HB0.out.kept hb).from);have HBW:=hide (HB0.out.below.trans (hb.mono HB0.out.size));have HMV:=hide hmv;have HV:=hide (And.intro hw1 (And.intro hw3 (And.intro hvl hprod)));have HS:Hid (BuiltS w.heap.size (w.heap.size + 1) vs w2 w2 0):=hide ⟨_,_,_,_,HB2.out,rfl⟩;have hvl2:vs.length <= 8000000:=Nat.le_trans hvl HSZ.out;clear ht hmv hb hw1 hw2 hw3 hvl hprod hW1 hmk;go_wp2_with fail;go_loopg [5,12] vs.length (fun gk u5 i wr=>∃ k:Nat,k + gk = vs.length /\ i = .int .i64 k /\ Hid (BuiltS w.heap.size (w.heap.size + 1) vs w2 wr k))
 case atStart=>exact ⟨0,by omega,rfl,HS.out⟩
 case round =>
  obtain ⟨k,hk,rfl,HR⟩:=hrel;cases gk with
  | zero =>
   obtain rfl:k = vs.length:=by omega
   obtain ⟨C,r,st,n,hb,he⟩:=HR.out;obtain ⟨o1,o2,o3,o4,o5⟩:=built_ok (N:=s.size) he HV.out.1 (Nat.le_refl _) HV.out.2.2.2;have hcf:=closeFrom_any C w.heap.size (w.heap.size + 1) r st n 1 w2 wr hb (Nat.le_refl _) (List.length_pos_iff.2 o1) (by omega) (fun p hp=>Nat.le_trans (o5 p hp) (by decide)) (by omega);have HCF:=hide hcf;have HE:=hide he;have HO:=hide (And.intro o1 (And.intro o2 (And.intro o3 o4)));clear hb he o1 o2 o3 o4 o5 hcf HR hk;go_wp2_with fail;refine HCF.out.mono ?_;rintro e w3 ⟨rfl,st3,⟨C3,r3,hb3⟩,ht3,htl3⟩
   have hl3:st3.length = 1:=by
    rw [<- toLs_length,ht3,closeN_length _ _ (by rw [toLs_length];have:=List.length_pos_iff.2 HO.out.1;omega),toLs_length];have:=List.length_pos_iff.2 HO.out.1;omega
   obtain ⟨p,rfl⟩:∃ p,st3 = [p]:=by
    match st3,hl3 with
    | [p],_=>exact ⟨p,rfl⟩
   obtain ⟨g,cap,rfl,i1,i2,i3,i4⟩:=hb3.form (by simp);have hb3':BS C3 w.heap.size (w.heap.size + 1) (.slice (some ⟨g,0,none⟩) (([]:List PartV).length + 1) cap) [p] n w2 w3:=hb3;have hw3':stW (toLs [p]) <= 5000:=by rw [ht3,closeN_wt];have:=HO.out;omega
   have hi:Calls Tryz.prog 37 #[.pointer (some ⟨w.heap.size + 1,0,none⟩)] w3 fun e w'=>e = .returned (.pointer (some ⟨g,0,none⟩)) /\ BS C3 w.heap.size (w.heap.size + 1) (.slice (some ⟨g,0,none⟩) (([]:List PartV).length + 1) cap) [p] n w2 w':=by
    have:=inner_at C3 w.heap.size (w.heap.size + 1) g cap p [] n w2 w3 hb3' (by simp);rw [show ([]:List PartV).length * 5 = 0 from rfl] at this;exact this
   have HI:=hide hi;have HKL:=hide (kids_le (p:=p) (List.mem_cons_self ..) hw3');have HTL:=hide (htl3 p (List.mem_cons_self ..));have HT3:=hide ht3;clear hb3 hb3' hi hw3' ht3 htl3 hl3 i1 i2 i3 i4;go_wp2_with fail;refine HI.out.mono ?_;rintro e w4 ⟨rfl,hb4⟩
   have hx:Calls Tryz.prog 38 #[.pointer (some ⟨g,0,none⟩)] w4 fun e w'=>e = .returned (.tuple #[]) /\ ∃ p',BS C3 w.heap.size (w.heap.size + 1) (.slice (some ⟨g,0,none⟩) (([]:List PartV).length + 1) cap) [p'] n w2 w' /\ p'.toL = endTextL p.toL:=by
    have:=endTextT_any C3 w.heap.size (w.heap.size + 1) g cap p [] n w2 w4 hb4 (by simp) (by have:=HKL.out;omega) HTL.out;rw [show ([]:List PartV).length * 5 = 0 from rfl] at this;exact this
   have HX:=hide hx;clear hb4 hx;go_wp2_with fail;refine HX.out.mono ?_;rintro e w5 ⟨rfl,p',hb5,hp'⟩
   have y3:w5.cell? ⟨g,3,none⟩ = some p'.kv:=by
    have:=hb5.cells.2.2.2.1;rw [show ([]:List PartV).length * 5 + 3 = 3 from rfl] at this;exact this
   have hkr:=hb5.kids p' (List.mem_cons_self ..);obtain ⟨KA,KC,hkv⟩:=hkr.form;have hnodes:=hkr.nodes (C':=fun b=>b < w5.heap.size) (fun b hb=>(hb5.typ b hb).1) (fun k e=>(hkr.row.lt k e).2)
   have HRES:Hid (NodesIn w5 (.slice KA p'.kids.length KC) (buildP (scanL decE [] [] s.data.toList)) /\ Below w.heap.size w w5):=hide ⟨by
    rw [<- hkv]
    have e1:buildP (scanL decE [] [] s.data.toList) = Tr.of (p'.kids.map Prod.fst):=by
     rw [<- HMV.out];unfold buildP;have e2:=HE.out;rw [List.take_of_length_le (by rw [List.length_map];exact Nat.le_refl _)] at e2;rw [<- e2];unfold endTree;have e3:=HT3.out;rw [<- toLs_length] at e3;rw [<- e3];show Tr.of (endTextL p.toL).kids = _
     rw [<- hp'];rfl
    rw [e1];exact hnodes,HBW.out.trans hb5.below⟩
   rw [hkv] at y3;clear hb5 hp' hkr hkv hnodes;go_wp2_with fail;go_ret;exact ⟨_,rfl,HRES.out⟩
  | succ gk =>
   obtain ⟨C,r,st,n,hb,he⟩:=HR.out;obtain ⟨o1,o2,o3,o4,o5⟩:=built_ok (N:=s.size) he HV.out.1 (by omega) HV.out.2.2.2;have hlt:k < vs.length:=by omega
   obtain ⟨⟨t,u⟩,hq⟩:∃ q,vs[k]? = some q:=⟨_,List.getElem?_eq_getElem hlt⟩
   have hmem:=List.mem_of_getElem? hq;have hrow:=HT.out.since hb.since;have hu:wr.ownsRow W1.heap.size 47 2 u t.attrs.length (atVals t.attrs):=hrow.each (t,u) hmem
   obtain ⟨A,c,rfl⟩:∃ A c,u = .slice A t.attrs.length c:=by
    rcases hu.2 with ⟨rfl,h0⟩ | ⟨g,cap,cur,rfl,_⟩
    ·rw [h0];exact ⟨_,_,rfl⟩
    ·exact ⟨_,_,rfl⟩
   obtain ⟨g0,rfl⟩:∃ g0,VA = some ⟨g0,0,none⟩:=by
    rcases hrow.row.2 with ⟨_,h0⟩ | ⟨g,cap,cur,hv,_⟩
    ·omega
    ·injection hv with hv _ _;exact ⟨g,hv⟩
   obtain ⟨q0,q1,q2,q3⟩:=tokVals_at hq
   have hcell:∀ (j:Nat) (x:Value),(tokVals vs)[k * 4 + j]? = some x -> wr.cell? ⟨g0,k * 4 + j,none⟩ = some x:=fun j x hx=>by
    have:=hrow.row.cells (g:=g0) rfl _ _ hx;rw [Addr.add_lit,Nat.zero_add] at this;exact this
   have y0:wr.cell? ⟨g0,k * 4,none⟩ = some (.int .i64 (t.kind:Int)):=hcell 0 _ q0;have y1:=hcell 1 _ q1;have y2:=hcell 2 _ q2;have y3:=hcell 3 _ q3;simp only at y1 y2 y3;have hnx:=fold_next hq ([rootL],0);rw [<- he] at hnx;simp only at hnx;have htw:=HV.out.1 t (by rw [List.mem_map];exact ⟨_,hmem,rfl⟩);have htf:=(HV.out.2.1 t (by rw [List.mem_map];exact ⟨_,hmem,rfl⟩)).1;have hkb:=below_one wr (Obj.cells #[.int .i64 (t.kind:Int),.string (str t.name),.slice A t.attrs.length c,.string (str t.text)] 71);have HBB:=hide (hb.kept hkb);have HUB:Hid ((wr.alloc (Obj.cells #[.int .i64 (t.kind:Int),.string (str t.name),.slice A t.attrs.length c,.string (str t.text)] 71)).ownsRow W1.heap.size 47 2 (.slice A t.attrs.length c) t.attrs.length (atVals t.attrs)):=hide (hu.kept (grown_none hkb) (by cases hv:Value.ownBlock (.slice A t.attrs.length c) <;> simp));have hbx:=heap_alloc_new wr (Obj.cells #[.int .i64 (t.kind:Int),.string (str t.name),.slice A t.attrs.length c,.string (str t.text)] 71);have HBX:=hide hbx;have HNX:=hide hnx;have HTW:=hide (And.intro htw htf);have HO:=hide (And.intro o1 (And.intro (Nat.le_trans o2 o3) (And.intro o3 (And.intro o4 o5))));have HQ:=hide hq;have HK:=HK;have tk0:decide ((k:Int) < (vs.length:Int)) = true:=decide_eq_true (by omega);have tk1:(k:Int) < (vs.length:Int):=by omega
   have tk2:k <= 8000000:=by omega
   have hne:(⟨wr.heap.size,0,none⟩:Addr).block = wr.heap.size:=rfl;clear hb he o1 o2 o3 o4 o5 hmem hrow hu q0 q1 q2 q3 hcell hnx htw htf hkb hbx HR hq hne
   by_cases k1:t.kind = 1
   ·have t1:((t.kind:Int) == 1) = true:=by rw [k1];rfl
    have HK1:=hide k1;clear k1;go_wp2_with fail;have hx:(str t.text).data.toList ≠ []:=by rw [str_toList];exact HTW.out.2 HK1.out
    have hch:Calls Tryz.prog 32 #[.pointer (some ⟨w.heap.size + 1,0,none⟩),.string (str t.text)] (wr.alloc (Obj.cells #[.int .i64 (t.kind:Int),.string (str t.name),.slice A t.attrs.length c,.string (str t.text)] 71)) fun e w'=>e = .returned (.tuple #[]) /\ Left w.heap.size (w.heap.size + 1) (charsP t.text (toLs st,n)) w2 w':=by
     have hb:=HBB.out;obtain ⟨g,cap,rfl,i1,i2,i3,i4⟩:=hb.form HO.out.1
     match st,hb,HO.out with
     | [],_,ho=>exact absurd rfl ho.1
     | p :: rest,hb,ho =>
      have h1:=ho.2.2.2.1;have h2:=ho.2.2.2.2 p (List.mem_cons_self ..);have h3:=HTW.out.1.1 HK1.out;have h4:=HSZ.out;have:=chars_any C w.heap.size (w.heap.size + 1) g cap p rest n w2 _ hb (by simp only [List.length_cons] at h1;omega) ho.2.2.1 (str t.text) hx (by rw [str_size];omega);rw [str_toList] at this;exact this
    refine hch.mono ?_;rintro e w6 ⟨rfl,C6,r6,st6,hb6,he6⟩;have HB6:=hide hb6;have HE6:=hide he6;clear hb6 he6 hch hx;go_wp2_with fail;go_roundg gk
    case rel =>
     refine ⟨k + 1,by omega,by go_num,hide ⟨_,_,_,_,HB6.out,?_⟩⟩;rw [HNX.out];unfold tokB;rw [if_pos HK1.out,HE6.out]
    case measure=>omega
   ·have t1:((t.kind:Int) == 1) = false:=beq_eq_false_iff_ne.2 (by omega)
    by_cases k2:t.kind = 2
    ·have t2:((t.kind:Int) == 2) = true:=by rw [k2];rfl
     have HK2:=hide (And.intro k1 k2);clear k1 k2;go_wp2_with fail;have hst:=start14_any C w.heap.size W1.heap.size (w.heap.size + 1) r st n w2 _ t (.slice A t.attrs.length c) HBB.out HO.out.1 (Nat.le_trans HO.out.2.1 (Nat.le_refl _)) HO.out.2.2.1 (fun p hp=>Nat.le_trans (HO.out.2.2.2.2 p hp) (by decide)) (by have:=HO.out.2.2.2.1;omega) HUB.out;refine hst.mono ?_;rintro e w6 ⟨rfl,C6,r6,st6,hb6,he6,_⟩;have HB6:=hide hb6;have HE6:=hide he6;clear hb6 he6 hst;go_wp2_with fail;go_roundg gk
     case rel =>
      refine ⟨k + 1,by omega,by go_num,hide ⟨_,_,_,_,HB6.out,?_⟩⟩;rw [HNX.out];unfold tokB;rw [if_neg HK2.out.1,if_pos HK2.out.2,HE6.out];unfold startP;simp only
      by_cases h5:n = 5000
      ·rw [if_pos h5,if_pos h5,if_pos h5]
      ·rw [if_neg h5,if_neg h5,if_neg h5];have hne:=(closeAll_length (closesB t.name) (toLs st).length (toLs st)).2 (fun e=>HO.out.1 (List.map_eq_nil_iff.1 e));have:=(put_wt t (closeAll (closesB t.name) (toLs st).length (toLs st)) n hne).2.1;exact Prod.ext rfl this.symm
     case measure=>omega
    ·have t2:((t.kind:Int) == 2) = false:=beq_eq_false_iff_ne.2 (by omega)
     by_cases k3:t.kind = 3
     ·have t3:((t.kind:Int) == 3) = true:=by rw [k3];rfl
      have HK3:=hide (And.intro k1 (And.intro k2 k3));clear k1 k2 k3;go_wp2_with fail;have hask:=ask_end wr.heap.size (str t.name);unfold AskAt at hask;rw [str_toList] at hask;have hcl:=close_gen 35 wr.heap.size (str t.name) (fun o=>o == t.name) HK.out hask C w.heap.size (w.heap.size + 1) r st n w2 _ HBB.out HO.out.1 HO.out.2.1 (fun p hp=>Nat.le_trans (HO.out.2.2.2.2 p hp) (by decide)) (by have:=HO.out.2.2.2.1;omega) (by rw [Lib.cell_of_heap HBX.out];rfl);refine hcl.mono ?_;rintro e w6 ⟨rfl,st6,⟨C6,r6,hb6⟩,he6,_⟩;have HB6:=hide hb6;have HE6:=hide he6;clear hb6 he6 hcl hask;go_wp2_with fail;go_roundg gk
      case rel =>
       refine ⟨k + 1,by omega,by go_num,hide ⟨_,_,_,_,HB6.out,?_⟩⟩;rw [HNX.out];unfold tokB;rw [if_neg HK3.out.1,if_neg HK3.out.2.1,if_pos HK3.out.2.2,HE6.out];unfold endP closeB;simp only;cases findP (fun o=>o == t.name) (toLs st) <;> rfl
      case measure=>omega
     ·have t3:((t.kind:Int) == 3) = false:=beq_eq_false_iff_ne.2 (by omega);have HK3:=hide (And.intro k1 (And.intro k2 k3));clear k1 k2 k3;go_wp2_with fail;go_roundg gk
      case rel =>
       refine ⟨k + 1,by omega,by go_num,hide ⟨_,_,_,_,HBB.out,?_⟩⟩;rw [HNX.out];unfold tokB;rw [if_neg HK3.out.1,if_neg HK3.out.2.1,if_neg HK3.out.2.2]
      case measure=>omega
end Go.Proofs.YtmgpmdfmkdhfgaaGreatDoor
