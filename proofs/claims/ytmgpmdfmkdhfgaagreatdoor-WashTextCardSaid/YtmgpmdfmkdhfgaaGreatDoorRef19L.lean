import Derived.Test.YtmgpmdfmkdhfgaaGreatDoorBaseR
import Derived.Test.YtmgpmdfmkdhfgaaGreatDoorRef19P
import Derived.Test.YtmgpmdfmkdhfgaaGreatDoorTreeY
import Derived.Test.YtmgpmdfmkdhfgaaGreatDoorEntX
import Derived.Test.YtmgpmdfmkdhfgaaGreatDoorRef14L
import Derived.Test.YtmgpmdfmkdhfgaaGreatDoorRef14K
namespace Go.Proofs.YtmgpmdfmkdhfgaaGreatDoor
open Go.RowKit
set_option linter.unusedVariables false
set_option linter.unusedSimpArgs false
set_option maxRecDepth 100000
def EnvH (w:World):Prop:=EnvX w /\ EnvW w
theorem EnvH.kept {w w':World} (h:EnvH w) (hb:Below w.heap.size w w'):EnvH w':=⟨h.1.kept hb,h.2.kept hb⟩
theorem small_okW {T:Tr} (h:T.all smallH = true):T.all okW = true:=by
 induction T with
 | nil=>rfl
 | cons hd K R ihk ihr =>
  simp only [Tr.all,Bool.and_eq_true] at h ⊢;refine ⟨?_,ihk h.2.1,ihr h.2.2⟩;obtain ⟨_,h2,h3,h4⟩:=fitT_len h.1;unfold okW;simp only [Bool.and_eq_true,decide_eq_true_eq,List.all_eq_true];exact ⟨⟨Nat.le_trans h3 (by decide),fun a ha=>Nat.le_trans (h4 a ha).2 (by decide)⟩,Nat.le_trans h2 (by decide)⟩
def fileF (f:FileL):Prop:=f.kind.length <= 300 /\ f.id.length <= 300
abbrev caseV (r s q:Bool) (A:Option Addr) (n c:Nat) (TA:Option Addr) (m d:Nat):Value:=.agg #[.bool r,.bool s,.bool q,.slice A n c,.slice TA m d]
set_option maxHeartbeats 8000000 in
theorem few19_any (r s q:Bool) (A:Option Addr) (F:List FileL) (c:Nat) (TA:Option Addr) (TC:Nat) (T:Tr) (w:World) (hF:FilesIn w (.slice A F.length c) F) (hfm:F.length <= maxLen) (hT:NodesIn w (.slice TA T.len TC) T) :
  Calls Tryz.prog 6 #[caseV r s q A F.length c TA T.len TC] w fun e w'=>∃ b:Bool,e = .returned (.bool b) /\ (b = true -> F.length <= 20 /\ (∀ f ∈ F,fileF f) /\ T.count <= 60 /\ T.all smallH = true) /\ Below w.heap.size w w':=by
 have hm:T.len <= maxLen:=by
  obtain ⟨_,h1,h2⟩:=NodesC.cap hT;exact Nat.le_trans h1 h2
 obtain ⟨W,hW⟩:∃ W,W = w.alloc (.cells #[.bool r,.bool s,.bool q,.slice A F.length c,.slice TA T.len TC] 27):=⟨_,rfl⟩
 have hb:Below w.heap.size w W:=by rw [hW];exact below_one w _
 have hkk:W.heap[w.heap.size]? = some (.cells #[.bool r,.bool s,.bool q,.slice A F.length c,.slice TA T.len TC] 27 (0,0)):=by rw [hW];exact heap_alloc_new w _
 have HC:Hid (∀ w',Below W.heap.size W w' -> w'.cell? ⟨w.heap.size,3,none⟩ = some (.slice A F.length c) /\ w'.cell? ⟨w.heap.size,4,none⟩ = some (.slice TA T.len TC) /\ FilesIn w' (.slice A F.length c) F /\ Below w.heap.size w w'):=hide (fun w' hb'=>by
  have k1:=(hb'.block _ (lt_of_block hkk)).trans hkk;exact ⟨by rw [Lib.cell_of_heap k1];rfl,by rw [Lib.cell_of_heap k1];rfl,(hF.kept hb).kept hb',wash_two hb hb'⟩)
 have HSM:=hide (small14_any _ T W (NodesIn.kept hT hb) hm);have HW:=hide hW;have HR:=hide (Below.refl W.heap.size W);obtain ⟨c3,c4,_,_⟩:=HC.out W HR.out;unfold maxLen at hfm;clear hF hT hm hb hkk hW
 by_cases h1:F.length <= 20
 ·have g1:decide ((20:Int) < F.length) = false:=decide_eq_false (by omega);go_enter Tryz.func6,Tryz.ntmps6;go_wp2_with fail;rw [<- HW.out];go_wp2_with fail;refine HSM.out.mono ?_;rintro e w1 ⟨bs,rfl,hbs,hb1⟩;have HB1:=hide hb1;have HBS:=hide hbs;clear hb1 hbs c3 c4;cases bs with
  | false =>
   go_wp2_with fail;go_ret;exact ⟨false,rfl,fun e=>(by cases e),(HC.out w1 HB1.out).2.2.2⟩
  | true =>
   go_wp2_with fail;go_loopw [3] (fun iv wr=>∃ k:Nat,k <= F.length /\ iv = .int .i64 k /\ Hid (Below W.heap.size W wr) /\ Hid (∀ j (h:j < F.length),j < k -> fileF F[j])) (fun iv _=>F.length - (intOf iv).toNat)
   case atStart=>exact ⟨0,Nat.zero_le _,rfl,HB1,hide (fun j h hj=>absurd hj (Nat.not_lt_zero _))⟩
   case round =>
    obtain ⟨k,hk,rfl,HB,HG⟩:=hrel;obtain ⟨c3,c4,hfi,_⟩:=HC.out wr HB.out
    by_cases hlt:k < F.length
    ·obtain ⟨a,rfl,d0,d1,d2,d3⟩:=hfi.at k _ (List.getElem?_eq_getElem hlt);have HLT:=hide hlt;obtain ⟨p,hp⟩:∃ p,F[k]'hlt = p:=⟨_,rfl⟩
     rw [hp] at d0 d1 d2 d3;obtain ⟨P1,hP1⟩:∃ P1,str p.kind = P1:=⟨_,rfl⟩
     obtain ⟨P2,hP2⟩:∃ P2,str p.id = P2:=⟨_,rfl⟩
     rw [hP1] at d1;rw [hP2] at d2;have l1:p.kind.length = P1.size:=by rw [<- hP1,str_size]
     have l2:p.id.length = P2.size:=by rw [<- hP2,str_size]
     have HP:=hide hp;have HLL:=hide (And.intro l1 l2);clear hfi hp hP1 hP2 l1 l2 d0 d3
     by_cases z1:P1.size <= 300
     ·have e1:decide ((300:Int) < P1.size) = false:=decide_eq_false (by omega)
      by_cases z2:P2.size <= 300
      ·have e2:decide ((300:Int) < P2.size) = false:=decide_eq_false (by omega)
       have HG3:Hid (∀ j (h:j < F.length),j < k + 1 -> fileF F[j]):=hide (fun j h hj=>by
        by_cases e:j = k
        ·subst e;rw [HP.out];exact ⟨by rw [HLL.out.1];exact z1,by rw [HLL.out.2];exact z2⟩
        ·exact HG.out j h (by omega))
       clear z1 z2;go_wp2_with fail;go_roundw
       case rel=>exact ⟨k + 1,HLT.out,by go_num,HB,HG3⟩
       case measure=>simp [intOf];have:=HLT.out;omega
      ·have e2:decide ((300:Int) < P2.size) = true:=decide_eq_true (by omega);clear z1 z2;go_wp2_with fail;go_ret;exact ⟨false,rfl,fun e=>(by cases e),(HC.out wr HB.out).2.2.2⟩
     ·have e1:decide ((300:Int) < P1.size) = true:=decide_eq_true (by omega);clear z1;go_wp2_with fail;go_ret;exact ⟨false,rfl,fun e=>(by cases e),(HC.out wr HB.out).2.2.2⟩
    ·have HK:=hide hlt;clear hfi;go_wp2_with fail;go_ret;refine ⟨true,rfl,fun _=>⟨h1,fun f hf=>?_,(by first | exact HBS.out rfl | exact HBS.out trivial | exact HBS.out)⟩,(HC.out wr HB.out).2.2.2⟩;obtain ⟨j,hj,rfl⟩:=List.getElem_of_mem hf;exact HG.out j hj (by have:=HK.out;omega)
 ·have g1:decide ((20:Int) < F.length) = true:=decide_eq_true (by omega);go_enter Tryz.func6,Tryz.ntmps6;go_wp2_with fail;rw [<- HW.out];go_wp2_with fail;go_ret;exact ⟨false,rfl,fun e=>(by cases e),(HC.out W HR.out).2.2.2⟩
def l19a:Array Value:=#[.string ⟨#[]⟩,.slice none 0 0,.string ⟨#[121]⟩,.slice none 0 0]
def l19b:Array Value:=#[.string ⟨#[104,114,101,102]⟩,.string ⟨#[104,116,116,112,58,47,47,104]⟩,.string ⟨#[114,101,108]⟩,.string ⟨#[110,111,111,112,101,110,101,114,32,110,111,114,101,102,101,114,114,101,114]⟩]
def l19c:Array Value:=#[.string ⟨#[]⟩,.slice none 0 0,.string ⟨#[98,91,113,93]⟩,.slice none 0 0]
def l19d (n:Nat):Array Value:=#[.string ⟨#[98]⟩,.slice none 0 0,.string ⟨#[]⟩,.slice (some ⟨n,0,none⟩) 1 1,.string ⟨#[]⟩,.slice none 0 0,.string ⟨#[97]⟩,.slice none 0 0,.string ⟨#[105]⟩,.slice none 0 0,.string ⟨#[]⟩,.slice none 0 0,.string ⟨#[97]⟩,.slice (some ⟨n + 1,0,none⟩) 2 2,.string ⟨#[]⟩,.slice none 0 0,.string ⟨#[97]⟩,.slice none 0 0,.string ⟨#[]⟩,.slice (some ⟨n + 1 + 1,0,none⟩) 1 1]
def l19W (w:World):World:=(((w.alloc (.cells l19a 36)).alloc (.cells l19b 47)).alloc (.cells l19c 36)).alloc (.cells (l19d w.heap.size) 36)
theorem l19_blocks (w:World):(l19W w).heap[w.heap.size]? = some (Obj.cells l19a 36 (0,0)) /\ (l19W w).heap[w.heap.size + 1]? = some (Obj.cells l19b 47 (0,0)) /\ (l19W w).heap[w.heap.size + 1 + 1]? = some (Obj.cells l19c 36 (0,0)) /\ (l19W w).heap[w.heap.size + 1 + 1 + 1]? = some (Obj.cells (l19d w.heap.size) 36 (0,0)) /\ Below w.heap.size w (l19W w):=by
 have e:(l19W w).heap = (((w.heap.push (.cells l19a 36)).push (.cells l19b 47)).push (.cells l19c 36)).push (.cells (l19d w.heap.size) 36):=rfl;have hs:∀ (h:Array Obj) (o:Obj) (k:Nat),k ≠ h.size -> (h.push o)[k]? = h[k]?:=fun h o k hk=>by rw [Array.getElem?_push,if_neg hk]
 have ht:∀ (h:Array Obj) (o:Obj) (k:Nat),k = h.size -> (h.push o)[k]? = some o:=fun h o k hk=>by rw [Array.getElem?_push,if_pos hk]
 refine ⟨?_,?_,?_,?_,⟨rfl,rfl,rfl,?_,fun k hk=>?_⟩⟩
 ·rw [e,hs _ _ _ (by simp only [Array.size_push];omega),hs _ _ _ (by simp only [Array.size_push];omega),hs _ _ _ (by simp only [Array.size_push];omega),ht _ _ _ rfl]
 ·rw [e,hs _ _ _ (by simp only [Array.size_push];omega),hs _ _ _ (by simp only [Array.size_push];omega),ht _ _ _ (by simp only [Array.size_push])]
 ·rw [e,hs _ _ _ (by simp only [Array.size_push];omega),ht _ _ _ (by simp only [Array.size_push])]
 ·rw [e,ht _ _ _ (by simp only [Array.size_push])]
 ·rw [e];simp only [Array.size_push];omega
 ·rw [e,hs _ _ _ (by simp only [Array.size_push];omega),hs _ _ _ (by simp only [Array.size_push];omega),hs _ _ _ (by simp only [Array.size_push];omega),hs _ _ _ (by omega)]
theorem l19_lit (w:World):NodesIn (l19W w) (.slice (some ⟨w.heap.size + 1 + 1 + 1,0,none⟩) 5 5) t19:=by
 obtain ⟨b0,b1,b2,b3,_⟩:=l19_blocks w;have k1:NodesIn (l19W w) (.slice (some ⟨w.heap.size,0,none⟩) 1 1) (.cons ⟨[],[],[121]⟩ .nil .nil):=nodes_of (node_at b0 rfl rfl rfl rfl (no_attrs _) (no_nodes _) trivial) rfl (by decide);have k2:NodesIn (l19W w) (.slice (some ⟨w.heap.size + 1 + 1,0,none⟩) 1 1) (.cons ⟨[],[],[98,91,113,93]⟩ .nil .nil):=nodes_of (node_at b2 rfl rfl rfl rfl (no_attrs _) (no_nodes _) trivial) rfl (by decide);have k0:AttrsC (fun b=>b < (l19W w).heap.size) (l19W w) (.slice (some ⟨w.heap.size + 1,0,none⟩) 2 2) [([104,114,101,102],[104,116,116,112,58,47,47,104]),([114,101,108],[110,111,111,112,101,110,101,114,32,110,111,114,101,102,101,114,114,101,114])]:=some_attrs [([104,114,101,102],[104,116,116,112,58,47,47,104]),([114,101,108],[110,111,111,112,101,110,101,114,32,110,111,114,101,102,101,114,114,101,114])] b1 rfl (by decide);exact nodes_of (node_at b3 rfl rfl rfl rfl (no_attrs _) k1 (node_at b3 rfl rfl rfl rfl (no_attrs _) (no_nodes _) (node_at b3 rfl rfl rfl rfl (no_attrs _) (no_nodes _) (node_at b3 rfl rfl rfl rfl k0 (no_nodes _) (node_at b3 rfl rfl rfl rfl (no_attrs _) k2 trivial))))) rfl (by decide)
set_option maxHeartbeats 16000000 in
theorem live19_any (w:World) (hE:EnvH w):Calls Tryz.prog 7 #[] w fun e w'=>e = .returned (.bool true) /\ Below w.heap.size w w':=by
 obtain ⟨m,hm⟩:=hE.1.2
 have HBL:=hide (by
  have:=treeBuild_any ⟨live19.toArray⟩ m w (by decide) hE.1.1 hm;exact this)
 have HE:=hide hE;have hlw:live19.toArray = #[60,102,111,110,116,62,60,98,32,111,110,99,108,105,99,107,61,120,62,121,60,47,98,62,60,47,102,111,110,116,62,60,115,99,114,105,112,116,62,122,60,47,115,99,114,105,112,116,62,97,60,105,62,60,47,105,62,60,97,32,104,114,101,102,61,39,104,116,116,112,58,47,47,104,39,62,60,97,62,98,60,105,109,103,32,115,114,99,61,104,116,116,112,58,47,47,112,32,97,108,116,61,113,62,60,105,109,103,32,119,105,100,116,104,61,49,32,115,114,99,61,104,116,116,112,58,47,47,112,62]:=rfl;rw [hlw] at HBL;have hdl:(⟨#[60,102,111,110,116,62,60,98,32,111,110,99,108,105,99,107,61,120,62,121,60,47,98,62,60,47,102,111,110,116,62,60,115,99,114,105,112,116,62,122,60,47,115,99,114,105,112,116,62,97,60,105,62,60,47,105,62,60,97,32,104,114,101,102,61,39,104,116,116,112,58,47,47,104,39,62,60,97,62,98,60,105,109,103,32,115,114,99,61,104,116,116,112,58,47,47,112,32,97,108,116,61,113,62,60,105,109,103,32,119,105,100,116,104,61,49,32,115,114,99,61,104,116,116,112,58,47,47,112,62]⟩:ByteArray).data.toList = live19:=rfl;rw [hdl] at HBL;obtain ⟨T,hT⟩:∃ T,T = buildP (scanL decE [] [] live19):=⟨_,rfl⟩
 rw [<- hT] at HBL;have HT:Hid (washT voidW false false [] T = t19 /\ blkT false T = 1 /\ T.all okW = true /\ T.count <= 100000):=hide ⟨by rw [hT];exact w19,by rw [hT];exact k19,by rw [hT];exact o19,by rw [hT];exact n19⟩;clear hE hm hlw hdl hT;go_enter Tryz.func7,Tryz.ntmps7;go_wp2_with fail;refine HBL.out.mono ?_;rintro e w1 ⟨v,rfl,hv,hb1⟩;obtain ⟨VA,VC,hvv⟩:=NodesC.form hv;subst hvv;obtain ⟨b0,b1,b2,b3,hl⟩:=l19_blocks w1;have hE2:=(HE.out.kept hb1).kept hl;have HCL:=hide (washClean_any false false false none [] 0 _ T (l19W w1) (FilesIn.nil _) (by decide) hE2.2 (NodesIn.kept hv hl) HT.out.2.2.1 HT.out.2.2.2);have HLT:=hide (l19_lit w1);have HV:=hide (NodesIn.kept hv hl);have HE2:=hide hE2;have HB2:=hide (wash_two hb1 hl);clear hv hb1 b0 b1 b2 b3 hl hE2;go_wp2_with fail;refine HCL.out.mono ?_;rintro e w2 ⟨v2,rfl,hv2,hb2⟩;obtain ⟨V2A,V2C,hvv2⟩:=NodesC.form hv2;subst hvv2;have hsm:=same14_any _ _ (washT voidW false false [] T) t19 w2 (by rw [HT.out.1];decide) hv2 (NodesIn.kept HLT.out hb2) (by rw [HT.out.1];decide);rw [show decide (washT voidW false false [] T = t19) = true from decide_eq_true HT.out.1] at hsm;have HSM:=hide hsm;have HB3:=hide hb2;clear hv2 hsm hb2;go_wp2_with fail;refine HSM.out.mono ?_;rintro e w3 ⟨rfl,m3,rfl⟩;have hb3:=HB3.out.trans (Below.mono (show Below w2.heap.size w2 (w2.drewN m3) from ⟨rfl,rfl,rfl,Nat.le_refl _,fun _ _=>rfl⟩) HB3.out.size)
 have hbk:=washBlocked_any false false false _ T (w2.drewN m3) (HE2.out.kept hb3).2.1 (NodesIn.kept HV.out hb3) HT.out.2.2.1 HT.out.2.2.2;rw [HT.out.2.1] at hbk;have HBK:=hide hbk;have HB4:=hide hb3;clear hbk hb3;go_wp2_with fail;refine HBK.out.mono ?_;rintro e w4 ⟨rfl,hb4⟩;have HR:Hid (Below w.heap.size w w4):=hide (HB2.out.trans ((HB4.out.trans (hb4.mono HB4.out.size)).mono HB2.out.size));clear hb4;go_wp2_with fail;go_ret;exact ⟨rfl,HR.out⟩
end Go.Proofs.YtmgpmdfmkdhfgaaGreatDoor
