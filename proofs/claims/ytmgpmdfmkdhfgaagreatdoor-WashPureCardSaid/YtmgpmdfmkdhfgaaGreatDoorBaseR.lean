/- More of the first texts of this claim in one: each with its own head. No statement is proved here. -/
import Derived.Test.YtmgpmdfmkdhfgaaGreatDoorBaseQ
import Derived.StillTailTactics
import Derived.Defers
import Derived.Test.YtmgpmdfmkdhfgaaGreatDoorBaseN
import Derived.ProofKit
import Derived.Laws.OwnMore
import Derived.Test.YtmgpmdfmkdhfgaaGreatDoorBaseO
import Derived.Deep.LoopGhost
import Derived.IntWalk
import Derived.BigRegion
import Derived.Lib.AppendStr
import Derived.BigQuiet
import Derived.Deep.QuietTactic
namespace Go.Proofs.YtmgpmdfmkdhfgaaGreatDoor
open Go.RowKit
set_option linter.unusedVariables false
set_option linter.unusedSimpArgs false
set_option maxRecDepth 100000
set_option maxHeartbeats 16000000
theorem leftT_length (p:PartW):p.leftT.length = p.left.length:=by unfold PartW.leftT;rw [List.length_reverse,List.length_map]
theorem nextL_len {l l':List Tr} {h:NdH} {K:Tr} (e:nextL l = some ((h,K),l')):l'.length <= l.length:=by
 induction l with
 | nil=>cases e
 | cons T r ih =>
  cases T with
  | nil=>have:=ih e;simp only [List.length_cons];omega
  | cons h2 K2 R2 =>
   unfold nextL at e;injection e with e;injection e with e1 e2;subst e2;exact Nat.le_refl _
section
variable {r s:Bool} {F:List FileL} {lk:Bool}
theorem leftT_more {p p':PartW} {kv:Value} {K:Tr} (h:p' = { p with left:=p.left ++ [(kv,K)],lv:=p'.lv }):p'.leftT = K :: p.leftT:=by
 rw [leftT_snoc (p:=p') (pre:=p.left) (v:=kv) (T:=K) (by rw [h])];rfl
theorem wash_step {p0 p:PartW} {rest st':List PartW} {hd:NdH} {kv:Value} {K:Tr} {l:List Tr} {G:List (NdH × Tr)} {k:Nat} (hn:nextL p0.leftT = some ((hd,K),l)) (hp:p = { p0 with left:=p.left,lv:=p.lv }) (hl:p.leftT = l) (hlen:p.left.length <= p0.left.length)
  (hG:finP voidW r s F lk (p0 :: rest) = G) (hok:∀ x ∈ p0 :: rest,PartOK k x) (h:WashStep r s F lk p rest hd kv K st') :
  st' ≠ [] /\ finP voidW r s F lk st' = G /\ weightS st' < weightS (p0 :: rest) /\ (∀ x ∈ st',PartOK (k + 1) x) /\ st'.length <= rest.length + 2:=by
 have hc:=nextL_count hn;have h0:=hok p0 (List.mem_cons_self ..);obtain ⟨a1,a2,a3⟩:=nextL_all hn h0.2.2.2;have htw:p.toW = p0.toW:=by rw [hp];rfl
 have hnm:p.name = p0.name /\ p.attrs = p0.attrs:=by rw [hp];exact ⟨rfl,rfl⟩
 have hkl:p.kids.length = p0.kids.length /\ p.tail.length = p0.tail.length:=by rw [hp];exact ⟨rfl,rfl⟩
 have hrest:∀ x ∈ rest,PartOK (k + 1) x:=fun x hx=>(hok x (List.mem_cons_of_mem _ hx)).more (by omega)
 have hG2:finS voidW r s F lk p0 rest (nodeWs voidW r s F lk hd K p0.toW) l = G:=by
  rw [<- hG];exact finS_same voidW r s F lk rfl rfl (washLs_some voidW r s F lk hn _).symm
 have hw0:weightS (p0 :: rest) = 2 * (1 + K.count + sumT l) + 1 + weightS rest:=by show 2 * sumT p0.leftT + 1 + weightS rest = _;rw [hc]
 have hok1:PartOK k p:=⟨by rw [hkl.1];exact h0.1,Nat.le_trans hlen h0.2.1,by rw [hkl.2];exact h0.2.2.1,by rw [hl];exact a3⟩
 rcases h with ⟨p',rfl,e1,e2,e3,e4,e5,e6⟩ | ⟨p',rfl,e1,e2⟩ | ⟨av,lv,rfl,e1⟩
 ·have hlt:p'.leftT = l:=by unfold PartW.leftT;rw [e3];exact hl
  refine ⟨by simp,?_,?_,?_,by simp⟩
  ·show finS voidW r s F lk p' rest p'.toW p'.leftT = G
   rw [e4,hlt,htw,<- hG2];exact finS_same voidW r s F lk (e1.trans hnm.1) (e2.trans hnm.2) rfl
  ·show 2 * sumT p'.leftT + 1 + weightS rest < _
   rw [hw0,hlt];omega
  ·intro x hx;rcases List.mem_cons.1 hx with rfl | hx
   ·exact ⟨by have:=hok1.1;omega,by rw [e3];have:=hok1.2.1;omega,by have:=hok1.2.2.1;omega,by rw [hlt];exact a3⟩
   ·exact hrest x hx
 ·have hlt:=leftT_more e1;refine ⟨by simp,?_,?_,?_,by simp⟩
  ·show finS voidW r s F lk p' rest p'.toW p'.leftT = G
   rw [show p'.toW = p.toW from by rw [e1];rfl,hlt,<- hG2,hl];refine finS_same voidW r s F lk (by rw [e1];exact hnm.1) (by rw [e1];exact hnm.2) ?_;rw [<- htw,e2];rfl
  ·show 2 * sumT p'.leftT + 1 + weightS rest < _
   rw [hw0,hlt,hl];show 2 * (K.count + sumT l) + 1 + _ < _
   omega
  ·intro x hx;rcases List.mem_cons.1 hx with rfl | hx
   ·refine ⟨?_,?_,?_,?_⟩
    ·rw [e1];show p.kids.length <= _;have:=hok1.1;omega
    ·rw [e1];show (p.left ++ [(kv,K)]).length <= _;rw [List.length_append];have:=hok1.2.1;simp only [List.length_cons,List.length_nil];omega
    ·rw [e1];show p.tail.length <= _;have:=hok1.2.2.1;omega
    ·rw [hlt];intro T hT;rcases List.mem_cons.1 hT with rfl | hT
     ·exact a2
     ·exact hok1.2.2.2 T hT
   ·exact hrest x hx
 ·refine ⟨by simp,?_,?_,?_,by simp⟩
  ·show finS voidW r s F lk p rest (wAdd p.toW (elemW r s F hd,Tr.of (wEnd (washL voidW r s F lk K ([],[]))))) p.leftT = G
   rw [<- e1,htw,hl,<- hG2];exact finS_same voidW r s F lk hnm.1 hnm.2 rfl
  ·show 2 * (K.count + 0) + 1 + (2 * sumT p.leftT + 1 + weightS rest) < _
   rw [hw0,hl];omega
  ·intro x hx;rcases List.mem_cons.1 hx with rfl | hx
   ·refine ⟨Nat.zero_le _,by show 1 <= _;omega,Nat.zero_le _,?_⟩;intro T hT;have hT:T ∈ [K]:=hT;obtain rfl:=List.mem_singleton.1 hT;exact a2
   ·rcases List.mem_cons.1 hx with rfl | hx
    ·exact hok1.more (by omega)
    ·exact hrest x hx
theorem pop_step {p p1 p2 q q':PartW} {rest:List PartW} {G:List (NdH × Tr)} {k:Nat} (hn:nextL p.leftT = none) (hp1:p1 = { p with left:=[],lv:=p1.lv }) (he:EndW p1 p2)
  (hG:finP voidW r s F lk (p :: q :: rest) = G) (hok:∀ x ∈ p :: q :: rest,PartOK k x) (ha:AddW q (⟨p2.name,p2.attrs,[]⟩,Tr.of (p2.kids.map Prod.fst)) q') :
  finP voidW r s F lk (q' :: rest) = G /\ weightS (q' :: rest) < weightS (p :: q :: rest) /\ (∀ x ∈ q' :: rest,PartOK (k + 1) x):=by
 have htw:p1.toW = p.toW:=by rw [hp1];rfl
 refine ⟨?_,?_,?_⟩
 ·rw [<- hG];show finS voidW r s F lk q' rest q'.toW q'.leftT = finS voidW r s F lk q rest (wAdd q.toW (⟨p.name,p.attrs,[]⟩,Tr.of (wEnd (washLs voidW r s F lk p.leftT p.toW)))) q.leftT
  rw [ha.toW,ha.left,washLs_none voidW r s F lk hn,he.2.2.2.1,htw,he.1,he.2.1,show p1.name = p.name from by rw [hp1],show p1.attrs = p.attrs from by rw [hp1]];exact finS_same voidW r s F lk ha.1 ha.2.1 rfl
 ·show 2 * sumT q'.leftT + 1 + weightS rest < 2 * sumT p.leftT + 1 + (2 * sumT q.leftT + 1 + weightS rest)
  rw [ha.left];omega
 ·intro x hx;rcases List.mem_cons.1 hx with rfl | hx
  ·exact ha.ok (hok q (by simp))
  ·exact (hok x (by simp [hx])).more (by omega)
theorem done_step {p p1 p2:PartW} {G:List (NdH × Tr)} (hn:nextL p.leftT = none) (hp1:p1 = { p with left:=[],lv:=p1.lv }) (he:EndW p1 p2) (hG:finP voidW r s F lk [p] = G):p2.kids.map Prod.fst = G:=by
 rw [<- hG,he.2.2.2.1];show wEnd p1.toW = wEnd (washLs voidW r s F lk p.leftT p.toW)
 rw [washLs_none voidW r s F lk hn,show p1.toW = p.toW from by rw [hp1];rfl]
end
def rootW (v:Value) (T:Tr) (a:Nat):PartW:=⟨[],[],.slice none 0 0,[],.slice none 0 0,[],.slice none 0 0,[(v,T)],.slice (some ⟨a,0,none⟩) 1 1⟩
theorem ws_new (w:World) (A:Option Addr) (n c:Nat) (T:Tr) (hT:NodesIn w (.slice A n c) T):WS (fun _=>False) w.heap.size [] (.slice (some ⟨w.heap.size + 1,0,none⟩) 1 1) [rootW (.slice A n c) T w.heap.size] w ((w.alloc (.cells #[.slice A n c] 25)).alloc (.cells #[.string ⟨#[]⟩,.slice none 0 0,.string ⟨#[]⟩,.slice none 0 0,.slice none 0 0,.slice (some ⟨w.heap.size,0,none⟩) 1 1] 84)):=by
 have h1:=below_one w (.cells #[.slice A n c] 25);have h2:=below_one (w.alloc (.cells #[.slice A n c] 25)) (.cells #[.string ⟨#[]⟩,.slice none 0 0,.string ⟨#[]⟩,.slice none 0 0,.slice none 0 0,.slice (some ⟨w.heap.size,0,none⟩) 1 1] 84);have hr:=World.ownsRow_lit (base:=w.heap.size) (e:=25) (size:=1) w #[.slice A n c] 1 (Nat.le_refl _) (by unfold maxLen;decide) rfl;have hr2:=World.ownsRow_lit (base:=w.heap.size) (e:=84) (size:=6) (w.alloc (.cells #[.slice A n c] 25)) #[.string ⟨#[]⟩,.slice none 0 0,.string ⟨#[]⟩,.slice none 0 0,.slice none 0 0,.slice (some ⟨w.heap.size,0,none⟩) 1 1] 1 h1.size (by unfold maxLen;decide) rfl;rw [World.size_alloc] at hr2;refine ⟨hr2,⟨?_,?_,?_,?_,?_,by simp,by simp,by simp,fun g hg=>hg.elim,Nat.le_refl _,wash_two h1 h2,Nat.le_trans h1.size h2.size,fun q hq=>by cases hq⟩⟩
 ·intro p hp;obtain rfl:=List.mem_singleton.1 hp;exact ⟨.inl ⟨rfl,rfl⟩,fun a n c e=>by cases e⟩
 ·intro p hp;obtain rfl:=List.mem_singleton.1 hp;exact ⟨World.ownsRow_nil _ _ _ 4,fun y hy=>(by cases hy),fun k e=>(by cases e)⟩
 ·intro p hp;obtain rfl:=List.mem_singleton.1 hp;exact World.ownsRow_nil _ _ _ 1
 ·intro p hp;obtain rfl:=List.mem_singleton.1 hp;exact hr.kept (grown_none h2) (by cases hv:(Value.slice (some ⟨w.heap.size,0,none⟩) 1 1).ownBlock <;> simp)
 ·intro p hp q hq;obtain rfl:=List.mem_singleton.1 hp;have hq:q ∈ [(Value.slice A n c,T)]:=hq;obtain rfl:=List.mem_singleton.1 hq;exact hT
def NodesI (r s:Bool) (F:List FileL) (lk:Bool) (M0:Nat) (G:List (NdH × Tr)) (W0:World) (gk:Nat) (u:Value) (wr:World):Prop :=
  ∃ C st,WS C W0.heap.size [] u st W0 wr /\ st ≠ [] /\ weightS st = gk /\ gk <= M0 /\ finP voidW r s F lk st = G /\ (∀ p ∈ st,PartOK (M0 - gk) p) /\ st.length <= M0 - gk + 1
def NodesOK (b:Nat) (r s q lk:Bool) (A:Option Addr) (F:List FileL) (c:Nat):Prop :=
  ∀ (w:World) (v:Value) (T:Tr),WshE b r s q lk A F c w -> NodesIn w v T -> T.all okW = true -> T.count <= 100000 ->
    Calls Tryz.prog 17 #[.pointer (some ⟨b,0,none⟩),v] w fun e w'=>∃ (v':Value) (D:Nat -> Prop),e = .returned v' /\ NewC D w.heap.size w' /\ NodesC D w' v' (Tr.of (wEnd (washL voidW r s F lk T ([],[])))) /\ Below w.heap.size w w'
theorem row_facts (n:Nat) (h:n <= 200001):wrap64 (n:Int) = (n:Int) /\ (n:Int) < (n:Int) + 1 /\ (0:Int) <= (n:Int):=⟨by unfold wrap64;omega,by omega,by omega⟩
theorem nodesW_any (b:Nat) (r s q lk:Bool) (A:Option Addr) (F:List FileL) (c:Nat) (hLK:lk = false -> LinkOK b r s q A F c):NodesOK b r s q lk A F c:=by
 intro w v T hE hT hok hc;obtain ⟨TA,TC,rfl⟩:=NodesC.form hT;obtain ⟨G,hG⟩:∃ G,G = wEnd (washL voidW r s F lk T ([],[])):=⟨_,rfl⟩
 obtain ⟨M0,hM⟩:∃ M0,M0 = 2 * T.count + 1:=⟨_,rfl⟩
 rw [<- hG]
 have HS:Hid (NodesI r s F lk M0 G w M0 (.slice (some ⟨w.heap.size + 1,0,none⟩) 1 1) ((w.alloc (.cells #[.slice TA T.len TC] 25)).alloc (.cells #[.string ⟨#[]⟩,.slice none 0 0,.string ⟨#[]⟩,.slice none 0 0,.slice none 0 0,.slice (some ⟨w.heap.size,0,none⟩) 1 1] 84))):=hide (by
  refine ⟨_,_,ws_new w TA T.len TC T hT,by simp,?_,Nat.le_refl _,hG.symm,?_,by simp⟩
  ·show 2 * (T.count + 0) + 1 + 0 = M0;omega
  ·intro p hp;obtain rfl:=List.mem_singleton.1 hp;refine ⟨Nat.zero_le _,by show 1 <= _;omega,Nat.zero_le _,fun T' hT'=>?_⟩;have hT':T' ∈ [T]:=hT';obtain rfl:=List.mem_singleton.1 hT';exact hok)
 have HE:=hide hE;have HLK:=hide hLK;have HM:Hid (M0 <= 200001):=hide (by omega);obtain ⟨W,hW⟩:∃ W,W = (w.alloc (.cells #[.slice TA T.len TC] 25)).alloc (.cells #[.string ⟨#[]⟩,.slice none 0 0,.string ⟨#[]⟩,.slice none 0 0,.slice none 0 0,.slice (some ⟨w.heap.size,0,none⟩) 1 1] 84):=⟨_,rfl⟩
 rw [<- hW] at HS;have HW:=hide hW;clear hE hT hok hc hG hM hLK hW;go_enter Tryz.func17,Tryz.ntmps17;go_wp2_with fail;rw [<- HW.out];go_loopg [5] M0 (fun gk u5 wr=>Hid (NodesI r s F lk M0 G w gk u5 wr))
 case atStart=>exact HS
 case round =>
  obtain ⟨C,st,hb,hne,hwt,hgM,hfin,hpok,hlen⟩:=hrel.out
  obtain ⟨p,rest,rfl⟩:∃ p rest,st = p :: rest:=by
   cases st with
   | nil=>exact absurd rfl hne
   | cons p rest=>exact ⟨p,rest,rfl⟩
  obtain ⟨g,cap,rfl,h1,h2,h3,h4⟩:=hb.form (by simp);have hb:WS C w.heap.size [] (.slice (some ⟨g,0,none⟩) (rest.length + 1) cap) (p :: rest) w wr:=hb;have hp0:=hpok p (List.mem_cons_self ..);simp only [List.length_cons] at h1 h2 hlen;have hrl:rest.length <= 200001:=by have:=HM.out;omega
  obtain ⟨t1,t2,t3⟩:=row_facts rest.length hrl;have hll:p.left.length <= 200002:=by have:=hp0.2.1;have:=HM.out;omega
  have hkl:p.kids.length <= 400003:=by have:=hp0.1;have:=HM.out;omega
  have htl:p.tail.length <= 700000000000:=by have:=hp0.2.2.1;have:=HM.out;omega
  have HN:=hide (nextW_any C [] w.heap.size g cap p rest w wr hb (by omega));have HF:=hide hfin;have HP:=hide hpok;have HWT:=hide (And.intro hwt hgM);have HL:=hide (And.intro hrl (And.intro hll (And.intro hkl htl)));have HLEN:=hide hlen;have HCAP:=hide h1;clear hb hne hwt hgM hfin hpok hlen h1 h2 h3 h4 hp0 hrl hll hkl htl hrel;go_wp2_with fail;refine HN.out.mono ?_;intro e w2 hx;cases hq:nextL p.leftT with
  | none =>
   rw [hq] at hx;obtain ⟨rfl,p1,hb2,hp1⟩:=hx;have HET:=hide (endTextW_any C [] w.heap.size g cap p1 rest w (w2.alloc (.cells #[.string ⟨#[]⟩,.slice none 0 0,.string ⟨#[]⟩,.slice none 0 0] 36)) (hb2.kept (below_one w2 _)) (by have:=HL.out.1;omega) (by rw [hp1];have:=HL.out.2.2.1;show p.kids.length <= _;omega) (by rw [hp1];have:=HL.out.2.2.2;show p.tail.length <= _;omega));have HP1:=hide hp1;have HQ:=hide hq;clear hq hb2 hp1;go_wp2_with fail;refine HET.out.mono ?_;rintro e w3 ⟨rfl,p2,hb3,hp2⟩;obtain ⟨e0,e1,e2,e3,e4,e5,ef⟩:=hb3.cells;have hav:=(hb3.ps.attrs p2 (List.mem_cons_self ..)).1;obtain ⟨VA,VC,hva⟩:=hav.form;obtain ⟨KA,KC,hkv⟩:=own_any (hb3.ps.kids p2 (List.mem_cons_self ..)).row;rw [hva] at e1;rw [hkv] at e3;obtain ⟨nm,hnm⟩:∃ nm,nm = str p2.name:=⟨_,rfl⟩
   rw [<- hnm] at e0;have HB3:=hide hb3;have HP2:=hide hp2;have HVA:=hide hva;have HKV:=hide hkv;have HNM:=hide hnm;have z1:decide ((rest.length:Int) <= (cap:Int)) = true:=decide_eq_true (by have:=HCAP.out;omega);have z2:((rest.length:Int) <= (cap:Int)):=by have:=HCAP.out;omega
   clear hb3 hp2 hav hva hkv hnm e4 e5 ef
   by_cases hr:rest = []
   ·have HRST:=hide hr;have y1:decide ((rest.length:Int) = 0) = true:=by rw [hr];rfl
    have y2:((rest.length:Int) == 0) = true:=by rw [hr];rfl
    clear hr;go_wp2_with fail;go_ret;have hb3:=HB3.out;obtain ⟨C',hsub,hs,hat,hnd⟩:=hb3.shrink;have hg:=done_step (p:=p) (p1:=p1) (p2:=p2) (G:=G) HQ.out HP1.out HP2.out (by rw [<- HRST.out];exact HF.out);rw [hg,HKV.out] at hnd;have h9:=below_one w3 (.cells #[.string nm,.slice VA p2.attrs.length VC,.string ⟨#[]⟩,.slice KA p2.kids.length KC] 36);exact ⟨_,C',rfl,NewC.kept (w:=w3) hs.ps.typ h9,hnd.mono (fun x hx=>h9.block x (hs.ps.typ x hx).2.1) (fun _ x=>x),hs.ps.below.trans (h9.mono hs.ps.size)⟩
   ·obtain ⟨q,rest',hqr⟩:∃ q rest',rest = q :: rest':=by
     cases rest with
     | nil=>exact absurd rfl hr
     | cons q rest'=>exact ⟨q,rest',rfl⟩
    have HRST:=hide hqr;obtain ⟨m,hm⟩:∃ m,m = rest'.length:=⟨_,rfl⟩
    have hmr:rest.length = m + 1:=by rw [hqr,hm];rfl
    have HMM:=hide (And.intro hm hmr);have hmL:m <= 200000:=by have:=HL.out.1;omega
    have y1:decide ((m:Int) + 1 = 0) = false:=decide_eq_false (by omega);have y2:((m:Int) + 1 == 0) = false:=beq_eq_false_iff_ne.2 (by omega);obtain ⟨y3,y4,y5⟩:=row_facts m (by omega);have y6:wrap64 ((m:Int) + 1) = (m:Int) + 1:=by unfold wrap64;omega
    have y7:(0:Int) <= (m:Int) + 1:=by omega
    have y8:(m:Int) + 1 < (m:Int) + 1 + 1:=by omega
    rw [hmr] at e0 e1 e2 e3 z1 z2 ⊢;have z3:(m:Int) + 1 <= (cap:Int):=by have:=HCAP.out;omega
    have z4:decide ((m:Int) + 1 <= (cap:Int)) = true:=decide_eq_true z3;have y9:IntKind.i64.wrap (m:Int) = (m:Int):=IntWalk.i64_in _ (by omega);clear hmL t1 t2 t3;obtain ⟨w4,hw4⟩:∃ w4,w4 = w3.alloc (.cells #[.string nm,.slice VA p2.attrs.length VC,.string ⟨#[]⟩,.slice KA p2.kids.length KC] 36):=⟨_,rfl⟩
    have h9:Below w3.heap.size w3 w4:=by rw [hw4];exact below_one w3 _
    have hk4:w4.heap[w3.heap.size]? = some (.cells #[.string nm,.slice VA p2.attrs.length VC,.string ⟨#[]⟩,.slice KA p2.kids.length KC] 36 (0,0)):=by rw [hw4];exact heap_alloc_new w3 _
    have hb3:=HB3.out;obtain ⟨C',hsub,hs,hat,hnd⟩:=hb3.shrink;rw [HVA.out] at hat;rw [HKV.out] at hnd;have hs4:=hs.kept h9;have hq0:=HP.out q (by rw [hqr];simp)
    have HADD:Hid (∀ w',Below w4.heap.size w4 w' -> Calls Tryz.prog 42 #[.pointer (some ⟨g,m * 6,none⟩),.agg #[.string nm,.slice VA p2.attrs.length VC,.string ⟨#[]⟩,.slice KA p2.kids.length KC]] w' fun e w''=>e = .returned (.tuple #[]) /\
      ∃ C'' p',WS C'' w.heap.size [] (.slice (some ⟨g,0,none⟩) (m + 1) cap) (p' :: rest') w w'' /\ AddW q (⟨p2.name,p2.attrs,[]⟩,Tr.of (p2.kids.map Prod.fst)) p'):=hide (fun w' hb'=>by
     have hs5:=hs4.kept hb';rw [hqr] at hs5;have hmono:∀ x,C' x -> w'.heap[x]? = w3.heap[x]?:=fun x hx=>((wash_two h9 hb').block x (hs.ps.typ x hx).2.1)
     have:=addW_any C' [] w.heap.size g cap q rest' w w' hs5 ⟨p2.name,p2.attrs,[]⟩ (Tr.of (p2.kids.map Prod.fst)) (.slice VA p2.attrs.length VC) (.slice KA p2.kids.length KC) (hat.mono hmono (fun _ x=>x)) (hnd.mono hmono (fun _ x=>x)) (by have:=HL.out.1;omega) (by have:=hq0.1;have:=HM.out;omega) (by have:=hq0.2.2.1;have:=HM.out;omega);rw [show str (⟨p2.name,p2.attrs,[]⟩:NdH).name = nm from HNM.out.symm,show str (⟨p2.name,p2.attrs,[]⟩:NdH).text = (⟨#[]⟩:ByteArray) from rfl,<- hm] at this;exact this)
    have d0:w4.cell? ⟨w3.heap.size,0,none⟩ = some (.string nm):=by rw [Lib.cell_of_heap hk4];rfl
    have d1:w4.cell? ⟨w3.heap.size,1,none⟩ = some (.slice VA p2.attrs.length VC):=by rw [Lib.cell_of_heap hk4];rfl
    have d2:w4.cell? ⟨w3.heap.size,2,none⟩ = some (.string ⟨#[]⟩):=by rw [Lib.cell_of_heap hk4];rfl
    have d3:w4.cell? ⟨w3.heap.size,3,none⟩ = some (.slice KA p2.kids.length KC):=by rw [Lib.cell_of_heap hk4];rfl
    have HW4:=hide hw4;have HR4:=hide (Below.refl w4.heap.size w4);clear hr hqr hm hmr hb3 hs hat hnd hs4 hq0 h9 hk4 hsub;go_wp2_with fail;rw [<- HW4.out];clear hw4;go_still_tail 6,(by kernel_rfl)
    change wpList _ _ _ _ _ w4.drew;go_wp2_with fail;refine (HADD.out _ HR4.out.drew).mono ?_;rintro e w5 ⟨rfl,C5,q',hb5,hq5⟩
    all_goals
     have hst:=pop_step (r:=r) (s:=s) (F:=F) (lk:=lk) (p:=p) (p1:=p1) (p2:=p2) (q:=q) (q':=q') (rest:=rest') (G:=G) (k:=M0 - gk) HQ.out HP1.out HP2.out (by rw [<- HRST.out];exact HF.out) (by rw [<- HRST.out];exact HP.out) hq5;have hwt:=HWT.out;rw [HRST.out] at hwt
     have HNEW:Hid (NodesI r s F lk M0 G w (weightS (q' :: rest')) (.slice (some ⟨g,0,none⟩) (m + 1) cap) w5 /\ weightS (q' :: rest') < gk):=hide (by
      have h2:=hst.2.1;have h3:=HLEN.out;have hmm:=HMM.out;refine ⟨⟨C5,q' :: rest',?_,by simp,rfl,by omega,hst.1,fun x hx=>(hst.2.2 x hx).more (by omega),by simp only [List.length_cons];omega⟩,by omega⟩;exact hb5)
     clear hst hwt hb5 hq5;go_wp2_with fail;go_roundg (weightS (q' :: rest'))
     case rel=>exact hide HNEW.out.1
     case measure=>exact HNEW.out.2
  | some y =>
   obtain ⟨⟨hd,K⟩,l⟩:=y;rw [hq] at hx;obtain ⟨av,kv,p1,rfl,hav,hkv,hb2,hp1,hl1⟩:=hx;obtain ⟨KA,KC,hkk⟩:=NodesC.form hkv;subst hkk;obtain ⟨VA,VC,hva⟩:=hav.form;subst hva
   have hp1len:p1.left.length <= p.left.length:=by
    have h1:=congrArg List.length hl1;rw [leftT_length] at h1;rw [h1,<- leftT_length p];exact nextL_len hq
   have HPL1:=hide hp1len;obtain ⟨a1,a2,a3⟩:=nextL_all hq (HP.out p (List.mem_cons_self ..)).2.2.2;have hcn:=nextL_count hq
   have hKc:K.count <= 100000:=by
    have h1:=HWT.out;have h2:weightS (p :: rest) = 2 * sumT p.leftT + 1 + weightS rest:=rfl;have h3:=HM.out;omega
   have HWA:Hid (∀ w',Below w2.heap.size w2 w' -> Calls Tryz.prog 40 #[.pointer (some ⟨b,0,none⟩),.slice (some ⟨g,0,none⟩) (rest.length + 1) cap,.agg #[.string (str hd.name),.slice VA hd.attrs.length VC,.string (str hd.text),.slice KA K.len KC]] w' fun e w'' =>
     ∃ C' r' st',e = .returned r' /\ WS C' w.heap.size [] r' st' w w'' /\ WashStep r s F lk p1 rest hd (.slice KA K.len KC) K st'):=hide (fun w' hb' =>
    washW_any C [] w.heap.size g cap p1 rest w w' (hb2.kept hb') b r s q lk A F c HE.out HLK.out hd _ _ K hav hkv a1 a2 hKc (by have:=HL.out.1;omega) (by rw [hp1];have:=HL.out.2.2.1;show p.kids.length <= _;omega) (by have:=HPL1.out;have:=HL.out.2.1;omega) (by rw [hp1];have:=HL.out.2.2.2;show p.tail.length <= _;omega))
   obtain ⟨nm,hnm⟩:∃ nm,nm = str hd.name:=⟨_,rfl⟩
   obtain ⟨tx,htx⟩:∃ tx,tx = str hd.text:=⟨_,rfl⟩
   rw [<- hnm,<- htx] at HWA ⊢;have HP1:=hide hp1;have HL1:=hide hl1;have HQ:=hide hq;have HBN:=hide (below_one w2 (.cells #[.string nm,.slice VA hd.attrs.length VC,.string tx,.slice KA K.len KC] 36));clear hq hb2 hp1 hl1 hav hkv a1 a2 a3 hcn hKc hnm htx hp1len;go_wp2_with fail;refine (HWA.out _ HBN.out).mono ?_;rintro e w3 ⟨C3,r3,st3,rfl,hb3,hst3⟩;have hst:=wash_step (G:=G) (k:=M0 - gk) (rest:=rest) HQ.out HP1.out HL1.out HPL1.out HF.out HP.out hst3
   have HNEW:Hid (NodesI r s F lk M0 G w (weightS st3) r3 w3 /\ weightS st3 < gk):=hide (by
    have h1:=HWT.out;have h2:=hst.2.2.1;have h3:=HLEN.out;refine ⟨⟨C3,st3,hb3,hst.1,rfl,by omega,hst.2.1,fun x hx=>(hst.2.2.2.1 x hx).more (by omega),by have:=hst.2.2.2.2;omega⟩,by omega⟩)
   clear hst hb3 hst3;go_wp2_with fail;go_roundg (weightS st3)
   case rel=>exact hide HNEW.out.1
   case measure=>exact HNEW.out.2
theorem wpList_atg {ops:Array Oper} {rest:List Oper} {o:Oper} {a:Act} {Q:Exit -> Act -> World -> Prop} {w:World} (hgd:o.guard = none) (s x:Operand)
  (ho:o.op = .call { callee:=.builtin .append,args:=#[s,x],argTypes:=#[34,34] })
  (B:Nat) (v:Value) (l:List AtL) (hs:a.eval s = v) (f:AtL) (hb:w.ownsRow B 47 2 v l.length (atVals l)) (hB:B <= w.heap.size) (ad:Addr)
  (hx:a.eval x = .slice (some ad) 1 1) (h0:w.cell? (ad.add 0) = some (.string (str f.1))) (h1:w.cell? (ad.add 1) = some (.string (str f.2))) (hlen:l.length + 1 <= 4398046511104)
  (h:∀ v' w',w'.ownsRow B 47 2 v' (l ++ [f]).length (atVals (l ++ [f])) -> w.grownBy w' v.ownBlock -> wpList Tryz.prog ops Q rest (a.put o.dst v') w'):wpList Tryz.prog ops Q (o :: rest) a w:=by
 obtain ⟨i0,hi,hz0,hz1,hz2⟩:=info_parts info_at;refine wpList_append_own _ hgd s x 34 ho B 47 i0 (.agg #[.string ByteArray.empty,.string ByteArray.empty]) 2 32 Tryz.underlying34 hi hz0 hz1 hz2 rfl (by decide) v l.length (atVals l) hs hb ad 1 1 [.string (str f.1),.string (str f.2)] hx rfl ?_ ?_ (by unfold maxLen;omega) (by omega) hB ?_
 ·intro j u hj
  match j,hj with
  | 0,hj=>simp at hj;subst hj;exact h0
  | 1,hj=>simp at hj;subst hj;exact h1
  | (j + 2),hj=>simp at hj
 ·intro u hu;simp at hu;rcases hu with rfl | rfl
  ·rfl
  ·rfl
 ·intro v' w' ho' hg _;exact h v' w' (by rw [atVals_append,List.length_append];exact ho') hg
structure LkW (b:Nat) (r s q lk:Bool) (A:Option Addr) (n c:Nat) (w w':World):Prop where
  os:w'.os = w.os
  tape:w'.tape = w.tape
  output:w'.output = w.output
  size:w.heap.size <= w'.heap.size
  block:∀ k,k < w.heap.size -> k ≠ b -> w'.heap[k]? = w.heap[k]?
  blk:WshB b r s q lk A n c w'
theorem LkW.below {b:Nat} {r s q lk:Bool} {A:Option Addr} {n c:Nat} {w w' w'':World} (h:LkW b r s q lk A n c w w') (hb:Below w'.heap.size w' w''):LkW b r s q lk A n c w w'' :=
 ⟨hb.os.trans h.os,hb.tape.trans h.tape,hb.output.trans h.output,Nat.le_trans h.size hb.size,fun k hk hn=>(hb.block k (Nat.lt_of_lt_of_le hk h.size)).trans (h.block k hk hn),h.blk.kept hb⟩
theorem LkW.grown {b:Nat} {r s q lk:Bool} {A:Option Addr} {n c:Nat} {w w' w'':World} {row:Option Nat} (h:LkW b r s q lk A n c w w') (hg:w'.grownBy w'' row) (hr:∀ k,row = some k -> w.heap.size <= k) (hbl:b < w.heap.size):LkW b r s q lk A n c w w'' :=
 ⟨hg.os.trans h.os,hg.tape.trans h.tape,hg.output.trans h.output,Nat.le_trans h.size hg.size,fun k hk hn=>(hg.block k (Nat.lt_of_lt_of_le hk h.size) (fun e=>by have:=hr k e.symm;omega)).trans (h.block k hk hn),(hg.block b (Nat.lt_of_lt_of_le hbl h.size) (fun e=>by have:=hr b e.symm;omega)).trans h.blk⟩
theorem LkW.put {b:Nat} {r s q lk:Bool} {A:Option Addr} {n c:Nat} {w w':World} (h:LkW b r s q lk A n c w w') (hbl:b < w.heap.size) {k i:Nat} (hk:w.heap.size <= k) (u:Value):LkW b r s q lk A n c w (w'.setCell ⟨k,i,none⟩ u) :=
 h.grown (grown_put w' k i u) (fun x e=>by injection e with e;omega) hbl
theorem LkW.mark {b:Nat} {r s q:Bool} {A:Option Addr} {n c:Nat} {w w':World} (hw:WshB b r s q false A n c w) (hb:Below w.heap.size w w'):LkW b r s q true A n c w (w'.setCell ⟨b,4,none⟩ (.bool true)) :=
 ⟨hb.os,hb.tape,hb.output,by rw [World.size_setCell];exact hb.size,fun k hk hn=>(Below.heap_setCell w' ⟨b,4,none⟩ (.bool true) k hn).trans (hb.block k hk),by
  unfold WshB;rw [heap_put0 ((hb.block b (lt_of_block hw)).trans hw)];rfl⟩
theorem LkW.back {b:Nat} {r s q:Bool} {A:Option Addr} {n c:Nat} {w w':World} (h:LkW b r s q true A n c w w') (hw:WshB b r s q false A n c w):Below w.heap.size w (w'.setCell ⟨b,4,none⟩ (.bool false)) :=
 ⟨h.os,h.tape,h.output,by rw [World.size_setCell];exact h.size,fun k hk=>by
  by_cases e:k = b
  ·subst e
   have hx:(w'.setCell ⟨k,4,none⟩ (.bool false)).heap[k]? = some (.cells #[.bool r,.bool s,.bool q,.slice A n c,.bool false] 51 (0,0)):=by
    rw [heap_put0 h.blk];rfl
   exact hx.trans hw.symm
  ·exact (Below.heap_setCell w' ⟨b,4,none⟩ (.bool false) k e).trans (h.block k hk e)⟩
theorem wshB_cell {b:Nat} {r s q lk:Bool} {A:Option Addr} {n c:Nat} {w:World} (h:WshB b r s q lk A n c w) {a:Addr} {v:Value} (hc:w.cell? a = some v) (he:a.block = b):(∃ x,v = .bool x) \/ ∃ A n c,v = .slice A n c:=by
 obtain ⟨k,i,f⟩:=a;have he:k = b:=he;subst he
 have hf:f = none:=by
  cases f with
  | none=>rfl
  | some y =>
   unfold WshB at h;simp [World.cell?,h] at hc
 subst hf
 have key:w.cell? ⟨k,i,none⟩ = (#[.bool r,.bool s,.bool q,.slice A n c,.bool lk]:Array Value)[i]?:=by
  unfold WshB at h;simp [World.cell?,h]
 rw [key] at hc
 match i,hc with
 | 0,hc=>injection hc with hc;exact .inl ⟨_,hc.symm⟩
 | 1,hc=>injection hc with hc;exact .inl ⟨_,hc.symm⟩
 | 2,hc=>injection hc with hc;exact .inl ⟨_,hc.symm⟩
 | 3,hc=>injection hc with hc;exact .inr ⟨_,_,_,hc.symm⟩
 | 4,hc=>injection hc with hc;exact .inl ⟨_,hc.symm⟩
 | j + 5,hc=>simp at hc
theorem LkW.cell {b:Nat} {r s q lk lk0:Bool} {A:Option Addr} {n c:Nat} {w w':World} (h:LkW b r s q lk A n c w w') (hw:WshB b r s q lk0 A n c w) {a:Addr} {v:Value} (hc:w.cell? a = some v) (h1:∀ x,v ≠ .bool x) (h2:∀ A n c,v ≠ .slice A n c):w'.cell? a = some v:=by
 have hn:a.block ≠ b:=fun e=>by
  rcases wshB_cell hw hc e with ⟨x,e⟩ | ⟨A,n,c,e⟩
  ·exact h1 _ e
  ·exact h2 _ _ _ e
 rw [World.cell?_of_block (h.block a.block (World.block_lt_of_cell? _ _ hc) hn)];exact hc
theorem attrs_apart {b:Nat} {r s q lk:Bool} {A:Option Addr} {n c:Nat} {w:World} (hw:WshB b r s q lk A n c w) {C:Nat -> Prop} {v:Value} {l:List AtL} (h:AttrsC C w v l):AttrsC (fun x=>C x /\ x ≠ b) w v l:=by
 refine ⟨h.1,fun a m k e hl=>⟨h.2 a m k e hl,fun hb=>?_⟩⟩;rcases h.1 with ⟨_,h0⟩ | ⟨a',cap,e',_,_,h4⟩
 ·exact hl h0
 ·rw [e] at e';injection e' with e' _ _;injection e' with e';subst e';cases l with
  | nil=>exact hl rfl
  | cons f l =>
   have:=(h4 0 f rfl).1;rcases wshB_cell hw this (by rw [addr_add_block];exact hb) with ⟨x,e⟩ | ⟨A,n,c,e⟩ <;> cases e
theorem nodesAt_apart {b:Nat} {r s q lk:Bool} {A:Option Addr} {n c:Nat} {w:World} (hw:WshB b r s q lk A n c w) {C:Nat -> Prop} {t:Tr} {a:Addr} (h:NodesAt C w t a):NodesAt (fun x=>C x /\ x ≠ b) w t a:=by
 induction t generalizing a with
 | nil=>trivial
 | cons p k r ihk ihr =>
  obtain ⟨h0,h1,h2,⟨u,h3,h4⟩,⟨v,h5,h6⟩,h7⟩:=h
  have hn:a.block ≠ b:=fun hb=>by
   rcases wshB_cell hw h1 hb with ⟨x,e⟩ | ⟨A,n,c,e⟩ <;> cases e
  refine ⟨⟨h0,hn⟩,h1,h2,⟨u,h3,attrs_apart hw h4⟩,⟨v,h5,?_⟩,ihr h7⟩;rcases h6 with h6 | ⟨a',cap,e1,e2,e3,e4⟩
  ·exact .inl h6
  ·exact .inr ⟨a',cap,e1,e2,e3,ihk e4⟩
theorem nodes_apart {b:Nat} {r s q lk:Bool} {A:Option Addr} {n c:Nat} {w:World} (hw:WshB b r s q lk A n c w) {C:Nat -> Prop} {v:Value} {t:Tr} (h:NodesC C w v t):NodesC (fun x=>C x /\ x ≠ b) w v t:=by
 rcases h with h | ⟨a,cap,h1,h2,h3,h4⟩
 ·exact .inl h
 ·exact .inr ⟨a,cap,h1,h2,h3,nodesAt_apart hw h4⟩
theorem LkW.nodes {b:Nat} {r s q lk lk0:Bool} {A:Option Addr} {n c:Nat} {w w':World} (h:LkW b r s q lk A n c w w') (hw:WshB b r s q lk0 A n c w) {v:Value} {t:Tr} (hn:NodesIn w v t):NodesIn w' v t :=
 NodesC.mono (nodes_apart hw hn) (fun x hx=>h.block x hx.1 hx.2) (fun x hx=>Nat.lt_of_lt_of_le hx.1 h.size)
theorem LkW.attrs {b:Nat} {r s q lk lk0:Bool} {A:Option Addr} {n c:Nat} {w w':World} (h:LkW b r s q lk A n c w w') (hw:WshB b r s q lk0 A n c w) {v:Value} {l:List AtL} (hl:AttrsIn w v l):AttrsIn w' v l:=by
 rcases hl with h0 | ⟨a,cap,e,h2,h3,h4⟩
 ·exact .inl h0
 ·exact .inr ⟨a,cap,e,h2,h3,fun j f hj=>⟨h.cell hw (h4 j f hj).1 (fun _ e=>by cases e) (fun _ _ _ e=>by cases e),h.cell hw (h4 j f hj).2 (fun _ e=>by cases e) (fun _ _ _ e=>by cases e)⟩⟩
theorem LkW.env {b:Nat} {r s q lk lk0:Bool} {A:Option Addr} {F:List FileL} {c:Nat} {w w':World} (h:LkW b r s q lk A F.length c w w') (hE:WshE b r s q lk0 A F c w):WshE b r s q lk A F c w':=by
 have hw:=hE.1;refine ⟨h.blk,?_,hE.2.2.1,?_,?_,?_⟩
 ·rcases hE.2.1 with h0 | ⟨a,cap,h1,h2,h3,h4⟩
  ·exact .inl h0
  ·refine .inr ⟨a,cap,h1,h2,h3,fun j hj=>?_⟩;obtain ⟨c0,c1,c2,c3⟩:=h4 j hj;exact ⟨h.cell hw c0 (fun _ e=>by cases e) (fun _ _ _ e=>by cases e),h.cell hw c1 (fun _ e=>by cases e) (fun _ _ _ e=>by cases e),h.cell hw c2 (fun _ e=>by cases e) (fun _ _ _ e=>by cases e),h.cell hw c3 (fun _ e=>by cases e) (fun _ _ _ e=>by cases e)⟩
 ·obtain ⟨u1,u2⟩:=hE.2.2.2.1;exact ⟨fun k hk=>h.cell hw (u1 k hk) (fun _ e=>by cases e) (fun _ _ _ e=>by cases e),fun i hi=>⟨h.cell hw (u2 i hi).1 (fun _ e=>by cases e) (fun _ _ _ e=>by cases e),h.cell hw (u2 i hi).2 (fun _ e=>by cases e) (fun _ _ _ e=>by cases e)⟩⟩
 ·intro j hj;exact h.cell hw (hE.2.2.2.2.1 j hj) (fun _ e=>by cases e) (fun _ _ _ e=>by cases e)
 ·obtain ⟨⟨e1,x1,y1⟩,⟨e2,x2,y2⟩⟩:=hE.2.2.2.2.2;refine ⟨⟨e1,h.cell hw x1 ?_ ?_,y1⟩,⟨e2,h.cell hw x2 ?_ ?_,y2⟩⟩
  ·rintro x rfl;rcases y1 with y | ⟨_,_,y⟩ <;> cases y
  ·rintro a n c rfl;rcases y1 with y | ⟨_,_,y⟩ <;> cases y
  ·rintro x rfl;rcases y2 with y | ⟨_,_,y⟩ <;> cases y
  ·rintro a n c rfl;rcases y2 with y | ⟨_,_,y⟩ <;> cases y
theorem link1_any (k b:Nat) (u:FrameMode) (w:World) (x:Bool) (hc:w.cell? ⟨k,0,none⟩ = some (.pointer (some ⟨b,0,none⟩))) (hb:w.cell? ⟨b,4,none⟩ = some (.bool x)) (hz:w.frozen? ⟨b,4,none⟩ = false) :
  CallsD Tryz.prog 85 #[.pointer (some ⟨k,0,none⟩)] u w fun e u' w'=>u' = u /\ (e = .returned (.tuple #[]) /\ w' = w.setCell ⟨b,4,none⟩ (.bool false)):=by
 go_enter_d Tryz.func85,Tryz.ntmps85;go_wp2;go_end0;exact ⟨rfl,rfl⟩
structure LkB (b:Nat) (r s q:Bool) (A:Option Addr) (n c:Nat) (node:Array Value) (w wr:World):Prop where
  lk:LkW b r s q true A n c w wr
  k0:wr.heap[w.heap.size]? = some (.cells #[.pointer (some ⟨b,0,none⟩)] 81 (0,0))
  k1:wr.heap[w.heap.size + 1]? = some (.cells node 36 (0,0))
  k2:wr.heap[w.heap.size + 1 + 1]? = some (.cells #[.string ⟨#[]⟩,.slice none 0 0,.string ⟨#[]⟩,.slice none 0 0] 36 (0,0))
  sz:w.heap.size + 3 <= wr.heap.size
theorem LkB.below {b:Nat} {r s q:Bool} {A:Option Addr} {n c:Nat} {node:Array Value} {w w1 w2:World} (h:LkB b r s q A n c node w w1) (hb:Below w1.heap.size w1 w2):LkB b r s q A n c node w w2 :=
 have hz:=h.sz
 ⟨h.lk.below hb,(hb.block _ (by omega)).trans h.k0,(hb.block _ (by omega)).trans h.k1,(hb.block _ (by omega)).trans h.k2,Nat.le_trans hz hb.size⟩
theorem LkB.grown {b:Nat} {r s q:Bool} {A:Option Addr} {n c:Nat} {node:Array Value} {w w1 w2:World} {row:Option Nat} (h:LkB b r s q A n c node w w1) (hg:w1.grownBy w2 row) (hr:∀ k,row = some k -> w.heap.size + 3 <= k) (hbl:b < w.heap.size):LkB b r s q A n c node w w2 :=
 have hz:=h.sz;have key:∀ x,x < w.heap.size + 3 -> w2.heap[x]? = w1.heap[x]?:=fun x hx=>hg.block x (by omega) (fun e=>by have:=hr x e.symm;omega)
 ⟨h.lk.grown hg (fun k e=>by have:=hr k e;omega) hbl,(key _ (by omega)).trans h.k0,(key _ (by omega)).trans h.k1,(key _ (by omega)).trans h.k2,Nat.le_trans hz hg.size⟩
theorem LkB.new {b:Nat} {r s q:Bool} {A:Option Addr} {n c:Nat} (node:Array Value) {w:World} (hw:WshB b r s q false A n c w) :
  LkB b r s q A n c node w ((((w.alloc (.cells #[.pointer (some ⟨b,0,none⟩)] 81)).alloc (.cells node 36)).alloc (.cells #[.string ⟨#[]⟩,.slice none 0 0,.string ⟨#[]⟩,.slice none 0 0] 36)).setCell ⟨b,4,none⟩ (.bool true)):=by
 have hbl:=lt_of_block hw;obtain ⟨w1,hw1⟩:∃ w1,w1 = w.alloc (.cells #[.pointer (some ⟨b,0,none⟩)] 81):=⟨_,rfl⟩
 obtain ⟨w2,hw2⟩:∃ w2,w2 = w1.alloc (.cells node 36):=⟨_,rfl⟩
 obtain ⟨w3,hw3⟩:∃ w3,w3 = w2.alloc (.cells #[.string ⟨#[]⟩,.slice none 0 0,.string ⟨#[]⟩,.slice none 0 0] 36):=⟨_,rfl⟩
 rw [<- hw1,<- hw2,<- hw3];have z1:w1.heap.size = w.heap.size + 1:=by rw [hw1,World.size_alloc]
 have z2:w2.heap.size = w.heap.size + 1 + 1:=by rw [hw2,World.size_alloc,z1]
 have z3:w3.heap.size = w.heap.size + 3:=by rw [hw3,World.size_alloc,z2]
 have b1:Below w.heap.size w w1:=by rw [hw1];exact below_one w _
 have b2:Below w1.heap.size w1 w2:=by rw [hw2];exact below_one w1 _
 have b3:Below w2.heap.size w2 w3:=by rw [hw3];exact below_one w2 _
 have hp:∀ x,x ≠ b -> (w3.setCell ⟨b,4,none⟩ (.bool true)).heap[x]? = w3.heap[x]?:=fun x hx=>Below.heap_setCell w3 ⟨b,4,none⟩ (.bool true) x hx
 refine ⟨LkW.mark hw (wash_two (wash_two b1 b2) b3),?_,?_,?_,by rw [World.size_setCell];omega⟩
 ·rw [hp _ (by omega),b3.block _ (by omega),b2.block _ (by omega),hw1];exact heap_alloc_new w _
 ·rw [hp _ (by omega),b3.block _ (by omega),<- z1,hw2];exact heap_alloc_new w1 _
 ·rw [hp _ (by omega),<- z2,hw3];exact heap_alloc_new w2 _
theorem link_end {b k5:Nat} {r s q:Bool} {A:Option Addr} {n c:Nat} {node:Array Value} {w w7:World} {nm:ByteArray} {v2 v3:Value} {G:List AtL} {B7:Nat} {D:Nat -> Prop} {T:Tr} (hw:WshB b r s q false A n c w) (h:LkB b r s q A n c node w w7)
  (hk5:w7.heap[k5]? = some (.cells #[.string nm,v2,.string ⟨#[]⟩,.slice none 0 0] 36 (0,0))) (h5:w.heap.size + 3 <= k5) (hrow:w7.ownsRow B7 47 2 v2 G.length (atVals G)) (hB:w.heap.size + 3 <= B7)
  (hD:NewC D (k5 + 1) w7) (hK:NodesC D w7 v3 T) {w8:World} (e8:w8 = ((((w7.setCell ⟨k5,3,none⟩ v3).setCell ⟨w.heap.size + 1 + 1,0,none⟩ (.string nm)).setCell ⟨w.heap.size + 1 + 1,1,none⟩ v2).setCell ⟨w.heap.size + 1 + 1,2,none⟩ (.string ⟨#[]⟩)).setCell ⟨w.heap.size + 1 + 1,3,none⟩ v3) :
  w8.cell? ⟨w.heap.size,0,none⟩ = some (.pointer (some ⟨b,0,none⟩)) /\ w8.cell? ⟨b,4,none⟩ = some (.bool true) /\ w8.frozen? ⟨b,4,none⟩ = false /\ Below w.heap.size w (w8.setCell ⟨b,4,none⟩ (.bool false)) /\
   (w8.setCell ⟨b,4,none⟩ (.bool false)).heap[w.heap.size + 1 + 1]? = some (.cells #[.string nm,v2,.string ⟨#[]⟩,v3] 36 (0,0)) /\
   NewC (fun x=>v2.ownBlock = some x \/ D x) w.heap.size (w8.setCell ⟨b,4,none⟩ (.bool false)) /\ AttrsC (fun x=>v2.ownBlock = some x \/ D x) (w8.setCell ⟨b,4,none⟩ (.bool false)) v2 G /\ NodesC (fun x=>v2.ownBlock = some x \/ D x) (w8.setCell ⟨b,4,none⟩ (.bool false)) v3 T:=by
 have hbl:=lt_of_block hw;have hz:=h.sz;obtain ⟨wa,hwa⟩:∃ wa,wa = w7.setCell ⟨k5,3,none⟩ v3:=⟨_,rfl⟩
 have ga:w7.grownBy wa (some k5):=by rw [hwa];exact grown_put w7 k5 3 v3
 have hLa:=h.grown ga (fun k e=>by injection e with e;omega) hbl;have hk2:=heap_four hLa.k2 (.string nm) v2 (.string ⟨#[]⟩) v3;have hg4:=grown_four wa (w.heap.size + 1 + 1) (.string nm) v2 (.string ⟨#[]⟩) v3;rw [hwa,<- e8] at hk2 hg4;rw [hwa] at hLa;have za:w7.heap.size = (w7.setCell ⟨k5,3,none⟩ v3).heap.size:=by rw [World.size_setCell]
 have z8:w8.heap.size = w7.heap.size:=by rw [e8];simp [World.setCell]
 have hL8:LkW b r s q true A n c w w8:=hLa.lk.grown hg4 (fun k e=>by injection e with e;omega) hbl;have h80:w8.heap[w.heap.size]? = some (.cells #[.pointer (some ⟨b,0,none⟩)] 81 (0,0)):=(hg4.block _ (by omega) (fun e=>by injection e with e;omega)).trans hLa.k0;have hblk:=hL8.blk;unfold WshB at hblk;have hp9:∀ x,x ≠ b -> (w8.setCell ⟨b,4,none⟩ (.bool false)).heap[x]? = w8.heap[x]?:=fun x hx=>Below.heap_setCell w8 ⟨b,4,none⟩ (.bool false) x hx
 have hsame:∀ x,x < w7.heap.size -> x ≠ k5 -> x ≠ w.heap.size + 1 + 1 -> x ≠ b -> (w8.setCell ⟨b,4,none⟩ (.bool false)).heap[x]? = w7.heap[x]?:=fun x h1 h2 h3 h4=>by
  rw [hp9 x h4,hg4.block x (by omega) (fun e=>h3 (by injection e)),Below.heap_setCell w7 ⟨k5,3,none⟩ v3 x h2]
 have hrk5:v2.ownBlock ≠ some k5:=ownsRow_other hrow (fun cur hx=>by
  rw [hk5] at hx;injection hx with hx;injection hx with _ hx;exact absurd hx (by decide))
 have hkeep:∀ x,(v2.ownBlock = some x \/ D x) -> (w8.setCell ⟨b,4,none⟩ (.bool false)).heap[x]? = w7.heap[x]?:=fun x hx=>by
  rcases hx with hx | hx
  ·have hlt:=hrow.lt x hx;exact hsame x hlt.2 (fun e=>hrk5 (by rw [hx,e])) (by omega) (by omega)
  ·have hd:=hD x hx;exact hsame x hd.2.1 (by omega) (by omega) (by omega)
 refine ⟨by rw [Lib.cell_of_heap h80];rfl,by rw [Lib.cell_of_heap hblk];rfl,Lib.frozen_of_heap hblk 4,hL8.back hw,(hp9 _ (by omega)).trans hk2,fun g hg=>?_,(attrsC_row hrow).mono (fun x hx=>hkeep x (.inl hx)) (fun x hx=>.inl hx),hK.mono (fun x hx=>hkeep x (.inr hx)) (fun x hx=>.inr hx)⟩;rw [hkeep g hg,World.size_setCell,z8];rcases hg with hg | hg
 ·have h1:=newC_row (.inr rfl) hrow g hg;exact ⟨by omega,h1.2⟩
 ·have h1:=hD g hg;exact ⟨by omega,h1.2⟩
theorem link_any (b : Nat) (r s q : Bool) (A : Option Addr) (F : List FileL) (c : Nat) (hN : NodesOK b r s q true A F c) : LinkOK b r s q A F c := by
  intro w hd av kv K hE ha hkv hok hKok hKc
  obtain ⟨Ak, ck, hkk⟩ := NodesC.form hkv
  subst hkk
  obtain ⟨Aa, ca, rfl⟩ := ha.form
  obtain ⟨nm, hnm⟩ : ∃ nm, nm = str hd.name := ⟨_, rfl⟩
  obtain ⟨tx, htx⟩ : ∃ tx, tx = str hd.text := ⟨_, rfl⟩
  obtain ⟨G, hG⟩ : ∃ G, G = elemA r s F hd.name [] hd.attrs := ⟨_, rfl⟩
  have hw := hE.1
  have hbl := lt_of_block hw
  have hnew := LkB.new #[.string nm, .slice Aa hd.attrs.length ca, .string tx, .slice Ak K.len ck] hw
  obtain ⟨W1, hW1⟩ : ∃ W1, W1 = (((w.alloc (.cells #[.pointer (some ⟨b, 0, none⟩)] 81)).alloc (.cells #[.string nm, .slice Aa hd.attrs.length ca, .string tx, .slice Ak K.len ck] 36)).alloc (.cells #[.string ⟨#[]⟩, .slice none 0 0, .string ⟨#[]⟩, .slice none 0 0] 36)).setCell ⟨b, 4, none⟩ (.bool true) := ⟨_, rfl⟩
  rw [← hW1] at hnew
  rw [← hnm, ← htx, ← hG]
  have hmf : ∀ (fn : Fn) (first cap : Array Value) (w : World), (Instr.makeFunc fn first cap).run Tryz.prog w = .ok (.func fn first cap) w := fun _ _ _ _ => rfl
  have hb3 : ∀ o1 o2 o3, Below w.heap.size w (((w.alloc o1).alloc o2).alloc o3) := fun o1 o2 o3 => wash_two (wash_two (below_one w o1) (below_one _ o2)) (below_one _ o3)
  have hwu := hw
  unfold WshB at hwu
  have x0 : ∀ o1 o2 o3, (((w.alloc o1).alloc o2).alloc o3).cell? ⟨b, 4, none⟩ = some (.bool false) := fun o1 o2 o3 => by rw [Lib.cell_of_heap (((hb3 o1 o2 o3).block b hbl).trans hwu)]; rfl
  have x1 : ∀ o1 o2 o3, (((w.alloc o1).alloc o2).alloc o3).frozen? ⟨b, 4, none⟩ = false := fun o1 o2 o3 => Lib.frozen_of_heap (((hb3 o1 o2 o3).block b hbl).trans hwu) 4
  have hel := elem_at (hnew.lk.env hE) hd _ (.slice Ak K.len ck) (hnew.lk.attrs hw ha) hok ⟨_, _, _, rfl⟩ tx
  rw [← hnm, ← hG] at hel
  have HEL := hide hel
  have HGL := hide (show G.length ≤ 1000000 by rw [hG]; have := elemA_len r s F hd.name hd.attrs []; have := (okW_few hok).1.1; simp only [List.length_nil] at *; omega)
  have k0c : W1.cell? ⟨w.heap.size, 0, none⟩ = some (.pointer (some ⟨b, 0, none⟩)) := by rw [Lib.cell_of_heap hnew.k0]; rfl
  have k10 : W1.cell? ⟨w.heap.size + 1, 0, none⟩ = some (.string nm) := by rw [Lib.cell_of_heap hnew.k1]; rfl
  have k11 : W1.cell? ⟨w.heap.size + 1, 1, none⟩ = some (.slice Aa hd.attrs.length ca) := by rw [Lib.cell_of_heap hnew.k1]; rfl
  have k12 : W1.cell? ⟨w.heap.size + 1, 2, none⟩ = some (.string tx) := by rw [Lib.cell_of_heap hnew.k1]; rfl
  have k13 : W1.cell? ⟨w.heap.size + 1, 3, none⟩ = some (.slice Ak K.len ck) := by rw [Lib.cell_of_heap hnew.k1]; rfl
  have HNEW := hide hnew
  have HW1 := hide hW1
  have HE := hide hE
  have HKV := hide hkv
  have HOK := hide (And.intro hok (And.intro hKok hKc))
  have HBL := hide hbl
  have hne : ¬ (w.heap.size = b) := by omega
  have hne1 : ¬ (w.heap.size + 1 = b) := by omega
  have hne2 : ¬ (b = w.heap.size) := by omega
  have hne3 : ¬ (b = w.heap.size + 1) := by omega
  have hne4 : ¬ (b = w.heap.size + 1 + 1) := by omega
  have hne5 : ¬ (w.heap.size + 1 + 1 = b) := by omega
  clear hE ha hkv hok hKok hKc hG hnm htx hw hbl hnew hel hb3 hwu hW1
  go_enter_defers Tryz.func60, Tryz.ntmps60
  go_wp2_with fail
  rw [← HW1.out]
  go_wp2_with fail
  refine HEL.out.mono ?_
  rintro e w2 ⟨v, rfl, ho2, hb2⟩
  obtain ⟨VA, VC, hv⟩ := own_any ho2
  subst hv
  have hLB2 := HNEW.out.below hb2
  obtain ⟨w3, hw3⟩ : ∃ w3, w3 = w2.alloc (.cells #[.string nm, .slice VA G.length VC, .string ⟨#[]⟩, .slice none 0 0] 36) := ⟨_, rfl⟩
  have hb3 : Below w2.heap.size w2 w3 := by rw [hw3]; exact below_one w2 _
  obtain ⟨k5, hk5z⟩ : ∃ k5, k5 = w2.heap.size := ⟨_, rfl⟩
  have hk3 : w3.heap[k5]? = some (.cells #[.string nm, .slice VA G.length VC, .string ⟨#[]⟩, .slice none 0 0] 36 (0, 0)) := by rw [hk5z, hw3]; exact heap_alloc_new w2 _
  have hr3 := ho2.kept (grown_none hb3) (by cases hv : (Value.slice VA G.length VC).ownBlock <;> simp)
  have HF3 := hide (first_any (.slice VA G.length VC) G ⟨#[104, 114, 101, 102]⟩ w3 (attrs_of_row hr3) HGL.out)
  rw [show (⟨#[104, 114, 101, 102]⟩ : ByteArray).data.toList = n_href from rfl] at HF3
  have HVB : Hid (∀ x, (Value.slice VA G.length VC).ownBlock = some x → x < k5) := hide (fun x e => by rw [hk5z]; exact (ho2.lt x e).2)
  have HK5 : Hid (w.heap.size + 3 ≤ k5 ∧ w.heap.size + 3 ≤ W1.heap.size ∧ k5 < w3.heap.size) := hide ⟨by rw [hk5z]; exact hLB2.sz, HNEW.out.sz, lt_of_block hk3⟩
  have HSW3 := hide (Nat.le_trans hb2.size hb3.size)
  have HLB3 := hide (hLB2.below hb3)
  have HK3 := hide hk3
  have HR3 := hide hr3
  have HW3 := hide hw3
  have HK5Z := hide hk5z
  have HVL2 := hide (attrs_of_row hr3)
  clear k0c k10 k11 k12 k13 x0 x1 ho2 hb2 hLB2 hb3 hk3 hr3 hw3 hk5z
  cases hq : firstA G n_href with
  | none =>
    rw [hq] at HF3
    unfold firstV at HF3
    simp only at HF3
    have hga : linkA G = G := by unfold linkA; rw [hq]; rfl
    have HGA := hide hga
    clear hq hga
    go_wp2_with fail
    rw [← HW3.out, ← HK5Z.out]
    refine HF3.out.mono ?_
    rintro e w6 ⟨rfl, hb4⟩
    have hLB6 := HLB3.out.below hb4
    have hk6 := (hb4.block _ (lt_of_block HK3.out)).trans HK3.out
    have hr6 := HR3.out.kept (grown_none hb4) (by cases hv : (Value.slice VA G.length VC).ownBlock <;> simp)
    rw [← HGA.out] at hr6
    obtain ⟨VA2, hVA2⟩ : ∃ VA2, VA2 = VA := ⟨_, rfl⟩
    obtain ⟨VC2, hVC2⟩ : ∃ VC2, VC2 = VC := ⟨_, rfl⟩
    rw [show (Value.slice VA G.length VC) = Value.slice VA2 (linkA G).length VC2 from by rw [hVA2, hVC2, HGA.out]] at hk6
    rw [← hVA2, ← hVC2] at hr6
    clear hb4 hVA2 hVC2
    have HN6 := hide (hN w6 _ K (hLB6.lk.env HE.out) (hLB6.lk.nodes HE.out.1 HKV.out) HOK.out.2.1 HOK.out.2.2)
    have k0c : w6.cell? ⟨w.heap.size, 0, none⟩ = some (.pointer (some ⟨b, 0, none⟩)) := by rw [Lib.cell_of_heap hLB6.k0]; rfl
    have k1c : w6.cell? ⟨w.heap.size + 1, 3, none⟩ = some (.slice Ak K.len ck) := by rw [Lib.cell_of_heap hLB6.k1]; rfl
    have HLB6 := hide hLB6
    have HK6 := hide hk6
    have HR6 := hide hr6
    clear hLB6 hk6 hr6
    go_wp2_with fail
    refine HN6.out.mono ?_
    rintro e w7 ⟨v3, D, rfl, hD7, hK7, hb7⟩
    obtain ⟨KA3, KC3, hkk3⟩ := NodesC.form hK7
    subst hkk3
    have hLB7 := HLB6.out.below hb7
    have hk7 := (hb7.block _ (lt_of_block HK6.out)).trans HK6.out
    have hr7 := HR6.out.kept (grown_none hb7) (by cases hv : (Value.slice VA2 (linkA G).length VC2).ownBlock <;> simp)
    have e0 : w7.cell? ⟨k5, 0, none⟩ = some (.string nm) := by rw [Lib.cell_of_heap hk7]; rfl
    have e1 : w7.cell? ⟨k5, 1, none⟩ = some (.slice VA2 (linkA G).length VC2) := by rw [Lib.cell_of_heap hk7]; rfl
    have e2 : w7.cell? ⟨k5, 2, none⟩ = some (.string ⟨#[]⟩) := by rw [Lib.cell_of_heap hk7]; rfl
    have e3 : w7.cell? ⟨k5, 3, none⟩ = some (.slice none 0 0) := by rw [Lib.cell_of_heap hk7]; rfl
    have ef : ∀ i, w7.frozen? ⟨k5, i, none⟩ = false := fun i => Lib.frozen_of_heap hk7 i
    have f0 : w7.cell? ⟨w.heap.size + 1 + 1, 0, none⟩ = some (.string ⟨#[]⟩) := by rw [Lib.cell_of_heap hLB7.k2]; rfl
    have f1 : w7.cell? ⟨w.heap.size + 1 + 1, 1, none⟩ = some (.slice none 0 0) := by rw [Lib.cell_of_heap hLB7.k2]; rfl
    have f2 : w7.cell? ⟨w.heap.size + 1 + 1, 2, none⟩ = some (.string ⟨#[]⟩) := by rw [Lib.cell_of_heap hLB7.k2]; rfl
    have f3 : w7.cell? ⟨w.heap.size + 1 + 1, 3, none⟩ = some (.slice none 0 0) := by rw [Lib.cell_of_heap hLB7.k2]; rfl
    have ff : ∀ i, w7.frozen? ⟨w.heap.size + 1 + 1, i, none⟩ = false := fun i => Lib.frozen_of_heap hLB7.k2 i
    have hn5 : ¬ (k5 = w.heap.size + 1 + 1) := by have := HK5.out.1; omega
    have hn6 : ¬ (w.heap.size + 1 + 1 = k5) := fun e => hn5 e.symm
    have HEND := hide (link_end HE.out.1 hLB7 hk7 HK5.out.1 hr7 HK5.out.2.1 (fun g hg => ⟨by have := (hD7 g hg).1; have := HK5.out.2.2; have := lt_of_block HK6.out; omega, (hD7 g hg).2⟩) hK7 rfl)
    clear hD7 hK7 hb7 hLB7 hk7 hr7
    go_wp2_with fail
    obtain ⟨d1, d2, d3, d4, d5, d6, d7, d8⟩ := HEND.out
    refine leaves_cons (f := 85) (args := #[.pointer (some ⟨w.heap.size, 0, none⟩)]) (by simp) (by simp [go_sem]) ?_
    refine (link1_any w.heap.size b .returning _ true d1 d2 d3).mono ?_
    rintro e u' w9 ⟨rfl, rfl, rfl⟩
    refine ⟨_, results_cell_row rfl _ _ (w.heap.size + 1 + 1) _ _ _ _ rfl d5 Tryz.underlying36 rfl (by kernel_rfl), ?_⟩
    exact ⟨_, _, _, rfl, d6, d7, d8, d4⟩
  | some x =>
    rw [hq] at HF3
    unfold firstV at HF3
    simp only at HF3
    have hga : linkA G = G ++ [(wn_rel, wn_stranger)] := by unfold linkA; rw [hq]; rfl
    have HGA := hide hga
    clear hq hga
    go_wp2_with fail
    rw [← HW3.out, ← HK5Z.out]
    refine HF3.out.mono ?_
    rintro e w4 ⟨rfl, hb4⟩
    have hLB4 := HLB3.out.below hb4
    have hk4 := (hb4.block _ (lt_of_block HK3.out)).trans HK3.out
    have hr4 := HR3.out.kept (grown_none hb4) (by cases hv : (Value.slice VA G.length VC).ownBlock <;> simp)
    have l1 : w4.cell? ⟨k5, 1, none⟩ = some (.slice VA G.length VC) := by rw [Lib.cell_of_heap hk4]; rfl
    have HRA : Hid (∀ ob, (w4.alloc ob).ownsRow W1.heap.size 47 2 (.slice VA G.length VC) G.length (atVals G)) := hide (fun ob => hr4.kept (grown_none (below_one w4 ob)) (by cases hv : (Value.slice VA G.length VC).ownBlock <;> simp))
    have HSA : Hid (∀ ob, W1.heap.size ≤ (w4.alloc ob).heap.size) := hide (fun ob => by rw [World.size_alloc]; have := hLB4.sz; have := HNEW.out.sz; have h1 := hr4.1; have := hb4.size; have := HK5.out.2.2; have := (HNEW.out.sz); exact Nat.le_succ_of_le (Nat.le_trans HSW3.out hb4.size))
    have HLA : Hid (∀ ob, LkB b r s q A F.length c #[.string nm, .slice Aa hd.attrs.length ca, .string tx, .slice Ak K.len ck] w (w4.alloc ob) ∧ (w4.alloc ob).heap[k5]? = some (.cells #[.string nm, .slice VA G.length VC, .string ⟨#[]⟩, .slice none 0 0] 36 (0, 0))) := hide (fun ob => ⟨hLB4.below (below_one w4 ob), ((below_one w4 ob).block _ (lt_of_block hk4)).trans hk4⟩)
    have hn0 : ¬ (w.heap.size = k5) := by have := HK5.out.1; omega
    have hn1 : ¬ (w.heap.size + 1 = k5) := by have := HK5.out.1; omega
    have hn2 : ¬ (k5 = w.heap.size) := by have := HK5.out.1; omega
    have hn3 : ¬ (k5 = w.heap.size + 1) := by have := HK5.out.1; omega
    clear hb4 hLB4 hk4 hr4
    go_wp2_with (refine wpList_atg rfl _ _ rfl W1.heap.size (.slice VA G.length VC) G rfl (wn_rel, wn_stranger) (HRA.out _) (HSA.out _) ⟨w4.heap.size, 0, none⟩ rfl (at_row _ _ _).1 (at_row _ _ _).2 (by have := HGL.out; omega) ?_
                 intro v' w5 ho5 hg5
                 obtain ⟨VA2, VC2, hv2⟩ := own_any ho5
                 subst hv2
                 have hLB5 := (HLA.out _).1.grown hg5 (fun k e => by have := ((HRA.out (.cells #[.string ⟨#[114, 101, 108]⟩, .string ⟨#[110, 111, 111, 112, 101, 110, 101, 114, 32, 110, 111, 114, 101, 102, 101, 114, 114, 101, 114]⟩] 47)).lt k e).1; have := HK5.out.2.1; omega) HBL.out
                 have hk5 := (hg5.block k5 (lt_of_block (HLA.out _).2) (fun e => by have := HVB.out k5 e.symm; omega)).trans (HLA.out _).2
                 have k0c : w5.cell? ⟨w.heap.size, 0, none⟩ = some (.pointer (some ⟨b, 0, none⟩)) := by rw [Lib.cell_of_heap hLB5.k0]; rfl
                 have k1c : w5.cell? ⟨w.heap.size + 1, 3, none⟩ = some (.slice Ak K.len ck) := by rw [Lib.cell_of_heap hLB5.k1]; rfl
                 have k5c : w5.cell? ⟨k5, 1, none⟩ = some (.slice VA G.length VC) := by rw [Lib.cell_of_heap hk5]; rfl
                 have k5f : w5.frozen? ⟨k5, 1, none⟩ = false := Lib.frozen_of_heap hk5 1
                 have HLB5 := hide hLB5
                 have HK55 := hide hk5
                 have HO5 := hide ho5
                 clear ho5 hg5 hLB5 hk5)
    obtain ⟨w6, hw6⟩ : ∃ w6, w6 = w5.setCell ⟨k5, 1, none⟩ (.slice VA2 (G ++ [(wn_rel, wn_stranger)]).length VC2) := ⟨_, rfl⟩
    have hgp := grown_put w5 k5 1 (.slice VA2 (G ++ [(wn_rel, wn_stranger)]).length VC2)
    have hLB6 := HLB5.out.grown hgp (fun k e => by injection e with e; have := HK5.out.1; omega) HBL.out
    have hk6 := heap_put0 (i := 1) HK55.out (.slice VA2 (G ++ [(wn_rel, wn_stranger)]).length VC2)
    have hr6 := HO5.out.kept hgp (.inr (ownsRow_other HO5.out (fun cur hx => by
      rw [HK55.out] at hx
      injection hx with hx
      injection hx with _ hx
      exact absurd hx (by decide))))
    rw [← HGA.out] at hLB6 hk6 hr6 hw6
    rw [← hw6] at hLB6 hk6 hr6
    replace hk6 : w6.heap[k5]? = some (.cells #[.string nm, .slice VA2 (linkA G).length VC2, .string ⟨#[]⟩, .slice none 0 0] 36 (0, 0)) := hk6
    have HW6 : Hid (w6 = w5.setCell ⟨k5, 1, none⟩ (.slice VA2 (G.length + 1) VC2)) := hide (by rw [hw6, HGA.out, List.length_append]; rfl)
    clear hgp hw6
    have HN6 := hide (hN w6 _ K (hLB6.lk.env HE.out) (hLB6.lk.nodes HE.out.1 HKV.out) HOK.out.2.1 HOK.out.2.2)
    have k0c : w6.cell? ⟨w.heap.size, 0, none⟩ = some (.pointer (some ⟨b, 0, none⟩)) := by rw [Lib.cell_of_heap hLB6.k0]; rfl
    have k1c : w6.cell? ⟨w.heap.size + 1, 3, none⟩ = some (.slice Ak K.len ck) := by rw [Lib.cell_of_heap hLB6.k1]; rfl
    have HLB6 := hide hLB6
    have HK6 := hide hk6
    have HR6 := hide hr6
    clear hLB6 hk6 hr6
    rw [← HW6.out]
    refine HN6.out.mono ?_
    rintro e w7 ⟨v3, D, rfl, hD7, hK7, hb7⟩
    obtain ⟨KA3, KC3, hkk3⟩ := NodesC.form hK7
    subst hkk3
    have hLB7 := HLB6.out.below hb7
    have hk7 := (hb7.block _ (lt_of_block HK6.out)).trans HK6.out
    have hr7 := HR6.out.kept (grown_none hb7) (by cases hv : (Value.slice VA2 (linkA G).length VC2).ownBlock <;> simp)
    have e0 : w7.cell? ⟨k5, 0, none⟩ = some (.string nm) := by rw [Lib.cell_of_heap hk7]; rfl
    have e1 : w7.cell? ⟨k5, 1, none⟩ = some (.slice VA2 (linkA G).length VC2) := by rw [Lib.cell_of_heap hk7]; rfl
    have e2 : w7.cell? ⟨k5, 2, none⟩ = some (.string ⟨#[]⟩) := by rw [Lib.cell_of_heap hk7]; rfl
    have e3 : w7.cell? ⟨k5, 3, none⟩ = some (.slice none 0 0) := by rw [Lib.cell_of_heap hk7]; rfl
    have ef : ∀ i, w7.frozen? ⟨k5, i, none⟩ = false := fun i => Lib.frozen_of_heap hk7 i
    have f0 : w7.cell? ⟨w.heap.size + 1 + 1, 0, none⟩ = some (.string ⟨#[]⟩) := by rw [Lib.cell_of_heap hLB7.k2]; rfl
    have f1 : w7.cell? ⟨w.heap.size + 1 + 1, 1, none⟩ = some (.slice none 0 0) := by rw [Lib.cell_of_heap hLB7.k2]; rfl
    have f2 : w7.cell? ⟨w.heap.size + 1 + 1, 2, none⟩ = some (.string ⟨#[]⟩) := by rw [Lib.cell_of_heap hLB7.k2]; rfl
    have f3 : w7.cell? ⟨w.heap.size + 1 + 1, 3, none⟩ = some (.slice none 0 0) := by rw [Lib.cell_of_heap hLB7.k2]; rfl
    have ff : ∀ i, w7.frozen? ⟨w.heap.size + 1 + 1, i, none⟩ = false := fun i => Lib.frozen_of_heap hLB7.k2 i
    have hn5 : ¬ (k5 = w.heap.size + 1 + 1) := by have := HK5.out.1; omega
    have hn6 : ¬ (w.heap.size + 1 + 1 = k5) := fun e => hn5 e.symm
    have HEND := hide (link_end HE.out.1 hLB7 hk7 HK5.out.1 hr7 HK5.out.2.1 (fun g hg => ⟨by have := (hD7 g hg).1; have := HK5.out.2.2; have := lt_of_block HK6.out; omega, (hD7 g hg).2⟩) hK7 rfl)
    clear hD7 hK7 hb7 hLB7 hk7 hr7
    go_wp2_with fail
    obtain ⟨d1, d2, d3, d4, d5, d6, d7, d8⟩ := HEND.out
    refine leaves_cons (f := 85) (args := #[.pointer (some ⟨w.heap.size, 0, none⟩)]) (by simp) (by simp [go_sem]) ?_
    refine (link1_any w.heap.size b .returning _ true d1 d2 d3).mono ?_
    rintro e u' w9 ⟨rfl, rfl, rfl⟩
    refine ⟨_, results_cell_row rfl _ _ (w.heap.size + 1 + 1) _ _ _ _ rfl d5 Tryz.underlying36 rfl (by kernel_rfl), ?_⟩
    exact ⟨_, _, _, rfl, d6, d7, d8, d4⟩
section
variable {σ:Type} (bg:σ -> NdH -> Tr -> σ) (en:σ -> NdH -> σ) (dv:NdH -> Bool)
def inner (h:NdH) (K:Tr):Tr:=if dv h = true then K else .nil
def vis:Tr -> σ -> σ
  | .nil,s=>s
  | .cons h K R,s=>vis R (en (if dv h = true then vis K (bg s h K) else bg s h K) h)
theorem vis_inner (h:NdH) (K:Tr) (s:σ):(if dv h = true then vis bg en dv K s else s) = vis bg en dv (inner dv h K) s:=by
 unfold inner;split <;> rfl
def unw:List (NdH × Tr) -> σ -> σ
  | [],s=>s
  | [p],s=>vis bg en dv p.2 s
  | p :: q :: r,s=>unw (q :: r) (en (vis bg en dv p.2 s) p.1)
theorem unw_visit (h0 h:NdH) (K R:Tr) (rest:List (NdH × Tr)) (s:σ):unw bg en dv ((h0,.cons h K R) :: rest) s = unw bg en dv ((h,inner dv h K) :: (h0,R) :: rest) (bg s h K):=by
 have e:vis bg en dv (.cons h K R) s = vis bg en dv R (en (vis bg en dv (inner dv h K) (bg s h K)) h):=by
  rw [vis,vis_inner]
 cases rest with
 | nil=>simp only [unw,e]
 | cons p r=>simp only [unw,e]
variable (μ:σ -> Nat) (hb:∀ s h K,μ s <= μ (bg s h K)) (he:∀ s h,μ s <= μ (en s h))
include hb he
theorem vis_mono (T:Tr) (s:σ):μ s <= μ (vis bg en dv T s):=by
 induction T generalizing s with
 | nil=>exact Nat.le_refl _
 | cons h K R ihK ihR =>
  rw [vis];refine Nat.le_trans ?_ (ihR _);refine Nat.le_trans ?_ (he _ _);split
  ·exact Nat.le_trans (hb s h K) (ihK _)
  ·exact hb s h K
theorem unw_mono (st:List (NdH × Tr)) (s:σ):μ s <= μ (unw bg en dv st s):=by
 induction st generalizing s with
 | nil=>exact Nat.le_refl _
 | cons p r ih=>cases r with
  | nil=>exact vis_mono bg en dv μ hb he _ _
  | cons q r=>exact Nat.le_trans (Nat.le_trans (vis_mono bg en dv μ hb he _ _) (he _ _)) (ih _)
end
def Tr.ev (G:NdH -> Tr -> Prop):Tr -> Prop
  | .nil=>True
  | .cons h K R=>G h K /\ K.ev G /\ R.ev G
theorem Tr.ev_true (T:Tr):T.ev (fun _ _=>True):=by
 induction T with
 | nil=>trivial
 | cons h K R a b=>exact ⟨trivial,a,b⟩
def stepsW:List (NdH × Tr) -> Nat
  | []=>0
  | p :: r=>2 * p.2.count + 1 + stepsW r
theorem inner_count (dv:NdH -> Bool) (h:NdH) (K:Tr):(inner dv h K).count <= K.count:=by
 unfold inner;split
 ·exact Nat.le_refl _
 ·exact Nat.zero_le _
theorem inner_ev {G:NdH -> Tr -> Prop} (dv:NdH -> Bool) {h:NdH} {K:Tr} (hk:K.ev G):(inner dv h K).ev G:=by
 unfold inner;split
 ·exact hk
 ·trivial
theorem steps_len (st:List (NdH × Tr)):st.length <= stepsW st:=by
 induction st with
 | nil=>exact Nat.le_refl _
 | cons p r ih=>simp only [List.length_cons,stepsW];omega
abbrev DepS:=Int × Int × Nat
theorem vis_depth (T:Tr) (s:DepS) (h:s.1 <= s.2.1):vis (fun (s:DepS) _ _=>((s.1 + 1,max s.2.1 (s.1 + 1),s.2.2 + 1):DepS)) (fun s _=>(s.1 - 1,s.2.1,s.2.2 + 1)) (fun _=>true) T s = (s.1,max s.2.1 (s.1 + (T.depth:Int)),s.2.2 + 2 * T.count):=by
 induction T generalizing s with
 | nil=>simp only [vis,Tr.depth,Tr.count];obtain ⟨a,b,c⟩:=s;simp only at h ⊢;refine Prod.ext rfl (Prod.ext ?_ rfl);simp only;omega
 | cons p K R a b =>
  obtain ⟨d,m,c⟩:=s;simp only at h;simp only [vis,if_true,Tr.depth,Tr.count];rw [a _ (by simp only;omega)];simp only;rw [b _ (by simp only;omega)];refine Prod.ext ?_ (Prod.ext ?_ ?_)
  iterate 3
   ·simp only;omega
structure LevV where
  h:NdH
  av:Value
  kv:Value
  lv:Value
  R:Tr
def LevV.toP (p:LevV):NdH × Tr:=(p.h,p.R)
def levVals (ps:List LevV):List Value:=ps.flatMap fun p=>[.string (str p.h.name),p.av,.string (str p.h.text),p.kv,p.lv]
theorem levVals_length (ls:List LevV):(levVals ls).length = ls.length * 5:=by
 induction ls with
 | nil=>rfl
 | cons f r ih=>unfold levVals at *;rw [List.flatMap_cons,List.length_append,ih];simp;omega
theorem levVals_append (a b:List LevV):levVals (a ++ b) = levVals a ++ levVals b:=by unfold levVals;rw [List.flatMap_append]
theorem levVals_at (ps:List LevV) (p:LevV) (j:Nat) (hj:j < 5):(levVals (ps ++ [p]))[ps.length * 5 + j]? = [Value.string (str p.h.name),p.av,.string (str p.h.text),p.kv,p.lv][j]?:=by
 rw [levVals_append,List.getElem?_append_right (by rw [levVals_length];omega),levVals_length,show ps.length * 5 + j - ps.length * 5 = j by omega];rfl
theorem levVals_set (ps:List LevV) (p:LevV) (u:Value) (R':Tr):(levVals (ps ++ [p])).set (ps.length * 5 + 4) u = levVals (ps ++ [{ p with lv:=u,R:=R' }]):=by
 rw [levVals_append,List.set_append_right _ _ (by rw [levVals_length];omega),levVals_length,show ps.length * 5 + 4 - ps.length * 5 = 4 by omega,levVals_append];rfl
def NodeOK (B:Nat) (w:World) (p:LevV):Prop:=AttrsC (fun b=>b < B) w p.av p.h.attrs /\ ∃ K,NodesC (fun b=>b < B) w p.kv K
structure LS (B:Nat) (r:Value) (st:List LevV) (W0 w:World):Prop where
  row:w.ownsRow B 91 5 r st.length (levVals st.reverse)
  left:∀ p ∈ st,NodesC (fun b=>b < B) w p.lv p.R
  node:∀ p ∈ st,NodeOK B w p
  below:Below B W0 w
  size:B <= w.heap.size
theorem same_below {B:Nat} {w w':World} (hb:Below B w w'):∀ g,g < B -> w'.heap[g]? = w.heap[g]?:=fun g hg=>hb.block g hg
theorem NodeOK.below {B:Nat} {w w':World} {p:LevV} (h:NodeOK B w p) (hb:Below B w w'):NodeOK B w' p :=
 ⟨h.1.mono (same_below hb) (fun _ x=>x),h.2.imp fun K hK=>hK.mono (same_below hb) (fun _ x=>x)⟩
def FrL (B:Nat) (w w':World):Prop:=Below B w w' /\ ∀ (g:Nat) (cur:Array Value) (T:TypeId) (fz:Nat × Nat),w.heap[g]? = some (Obj.cells cur T fz) -> T = 91 \/ T = 36 -> w'.heap[g]? = w.heap[g]?
theorem FrL.own {B B':Nat} {w w':World} (h:FrL B w w') {v:Value} {n:Nat} {xs:List Value} (ho:w.ownsRow B' 91 5 v n xs):w'.ownsRow B' 91 5 v n xs:=by
 refine ⟨ho.1,?_⟩;rcases ho.2 with h0 | ⟨g,cap,cur,rfl,h1,h2,h3⟩
 ·exact .inl h0
 ·exact .inr ⟨g,cap,cur,rfl,h1,(h.2 g _ _ _ h2 (.inl rfl)).trans h2,h3⟩
theorem LS.frame {B:Nat} {r:Value} {st:List LevV} {W0 w w':World} (h:LS B r st W0 w) (hf:FrL B w w'):LS B r st W0 w' :=
 ⟨hf.own h.row,fun p hp=>(h.left p hp).mono (same_below hf.1) (fun _ x=>x),fun p hp=>(h.node p hp).below hf.1,h.below.trans hf.1,Nat.le_trans h.size hf.1.size⟩
theorem FrL.kept {B:Nat} {w w':World} (hb:Below w.heap.size w w') (hB:B <= w.heap.size):FrL B w w':=⟨hb.mono hB,fun g cur T fz hg _=>hb.block g (lt_of_block hg)⟩
theorem LS.kept {B:Nat} {r:Value} {st:List LevV} {W0 w w':World} (h:LS B r st W0 w) (hb:Below w.heap.size w w'):LS B r st W0 w':=h.frame (FrL.kept hb h.size)
theorem LS.form {B:Nat} {r:Value} {st:List LevV} {W0 w:World} (h:LS B r st W0 w) (hs:st ≠ []):∃ g cap,r = .slice (some ⟨g,0,none⟩) st.length cap /\ st.length <= cap /\ cap <= maxLen /\ B <= g /\ g < w.heap.size:=by
 rcases h.row.2 with ⟨rfl,h0⟩ | ⟨g,cap,cur,rfl,hg,hh,hc,hm,_⟩
 ·exact absurd (List.eq_nil_of_length_eq_zero h0) hs
 ·exact ⟨g,cap,rfl,hc,hm,hg,lt_of_block hh⟩
theorem LS.cells {B g cap:Nat} {p:LevV} {rest:List LevV} {W0 w:World} (h:LS B (.slice (some ⟨g,0,none⟩) (rest.length + 1) cap) (p :: rest) W0 w) :
  w.cell? ⟨g,rest.length * 5,none⟩ = some (.string (str p.h.name)) /\ w.cell? ⟨g,rest.length * 5 + 1,none⟩ = some p.av /\ w.cell? ⟨g,rest.length * 5 + 2,none⟩ = some (.string (str p.h.text)) /\ w.cell? ⟨g,rest.length * 5 + 3,none⟩ = some p.kv /\ w.cell? ⟨g,rest.length * 5 + 4,none⟩ = some p.lv /\ (∀ i,w.frozen? ⟨g,i,none⟩ = false):=by
 have hr:=h.row;rw [List.length_cons] at hr
 have hc:∀ j,j < 5 -> w.cell? ⟨g,rest.length * 5 + j,none⟩ = [Value.string (str p.h.name),p.av,.string (str p.h.text),p.kv,p.lv][j]?:=fun j hj=>by
  rw [hr.cellAt _ (by omega)];have:=levVals_at rest.reverse p j hj;rw [List.length_reverse] at this;rw [List.reverse_cons];exact this
 exact ⟨hc 0 (by decide),hc 1 (by decide),hc 2 (by decide),hc 3 (by decide),hc 4 (by decide),fun i=>hr.frozenAt i⟩
theorem LS.lev {B g m cap:Nat} {st:List LevV} {W0 w:World} (h:LS B (.slice (some ⟨g,0,none⟩) m cap) st W0 w):B <= g /\ ∃ cur,w.heap[g]? = some (Obj.cells cur 91 (0,0)):=by
 rcases h.row.2 with ⟨h0,_⟩ | ⟨g',cap',cur,h0,hg,hh,hc,hm,_⟩
 ·cases h0
 ·injection h0 with h0 _ _;injection h0 with h0;injection h0 with h0;subst h0;exact ⟨hg,cur,hh⟩
theorem LS.putLeft {B g cap:Nat} {p:LevV} {rest:List LevV} {W0 w:World} (h:LS B (.slice (some ⟨g,0,none⟩) (rest.length + 1) cap) (p :: rest) W0 w) (u:Value) (R':Tr) (hu:NodesC (fun b=>b < B) w u R') :
  LS B (.slice (some ⟨g,0,none⟩) (rest.length + 1) cap) ({ p with lv:=u,R:=R' } :: rest) W0 (w.setCell ⟨g,rest.length * 5 + 4,none⟩ u) /\ w.grownBy (w.setCell ⟨g,rest.length * 5 + 4,none⟩ u) (some g):=by
 have hr:=h.row;rw [List.length_cons] at hr;obtain ⟨r1,r2⟩:=hr.stored (rest.length * 5 + 4) u;obtain ⟨hBg,cur,hcur⟩:=h.lev;have hb:Below B w (w.setCell ⟨g,rest.length * 5 + 4,none⟩ u):=(Below.refl B w).setCell (p:=⟨g,rest.length * 5 + 4,none⟩) hBg u;refine ⟨⟨?_,?_,?_,h.below.trans hb,Nat.le_trans h.size hb.size⟩,r2⟩
 ·rw [List.reverse_cons] at r1 ⊢;have e1:=levVals_set rest.reverse p u R';rw [List.length_reverse] at e1;rw [e1] at r1;exact r1
 ·intro x hx;rcases List.mem_cons.1 hx with rfl | hx
  ·exact hu.mono (same_below hb) (fun _ x=>x)
  ·exact (h.left x (List.mem_cons_of_mem _ hx)).mono (same_below hb) (fun _ x=>x)
 ·intro x hx;rcases List.mem_cons.1 hx with rfl | hx
  ·exact NodeOK.below (h.node p (List.mem_cons_self ..)) hb
  ·exact (h.node x (List.mem_cons_of_mem _ hx)).below hb
theorem LS.pop {B g cap:Nat} {p q:LevV} {rest:List LevV} {W0 w:World} (h:LS B (.slice (some ⟨g,0,none⟩) (rest.length + 1 + 1) cap) (p :: q :: rest) W0 w):LS B (.slice (some ⟨g,0,none⟩) (rest.length + 1) cap) (q :: rest) W0 w:=by
 refine ⟨⟨by rw [levVals_length,List.length_reverse],?_⟩,fun x hx=>h.left x (List.mem_cons_of_mem _ hx),fun x hx=>h.node x (List.mem_cons_of_mem _ hx),h.below,h.size⟩;rcases h.row.2 with ⟨h0,_⟩ | ⟨g',cap',cur,h0,hg,hh,h1,h2,h3,h4⟩
 ·cases h0
 ·injection h0 with e1 e2 e3;injection e1 with e1;injection e1 with e1;subst e1 e3;refine .inr ⟨g,cap,cur,rfl,hg,hh,by simp only [List.length_cons] at h1 ⊢;omega,h2,h3,?_⟩;have e5:=congrArg (List.take ((q :: rest).length * 5)) h4;rw [List.take_take,Nat.min_eq_left (by simp only [List.length_cons];omega)] at e5;rw [e5,List.reverse_cons,levVals_append];have hl:(levVals (q :: rest).reverse).length = (q :: rest).length * 5:=by rw [levVals_length,List.length_reverse]
  rw [List.take_append_of_le_length (Nat.le_of_eq hl.symm),<- hl,List.take_length]
theorem LS.push {B:Nat} {r r':Value} {st:List LevV} {W0 w w2:World} {p:LevV} (h:LS B r st W0 w) (hp:NodesC (fun b=>b < B) w p.lv p.R) (hn:NodeOK B w p)
  (ho:w2.ownsRow B 91 5 r' (st.length + 1) (levVals st.reverse ++ levVals [p])) (hg:w.grownBy w2 r.ownBlock):LS B r' (p :: st) W0 w2:=by
 have hb:Below B w w2:=(Below.refl B w).grown hg h.size (fun k e=>(h.row.lt k e).1);refine ⟨?_,?_,?_,h.below.trans hb,Nat.le_trans h.size hb.size⟩
 ·rw [List.length_cons,List.reverse_cons,levVals_append];exact ho
 ·intro x hx;rcases List.mem_cons.1 hx with rfl | hx
  ·exact hp.mono (same_below hb) (fun _ x=>x)
  ·exact (h.left x hx).mono (same_below hb) (fun _ x=>x)
 ·intro x hx;rcases List.mem_cons.1 hx with rfl | hx
  ·exact hn.below hb
  ·exact (h.node x hx).below hb
theorem info_level:(Tryz.prog.info? 91).map (fun i=>(i.zero,i.size,i.bytes)) = some (some (.agg #[.string ByteArray.empty,.slice none 0 0,.string ByteArray.empty,.slice none 0 0,.slice none 0 0]),5,104):=by kernel_rfl
theorem lev_row (W:World) (c0 c1 c2 c3 c4:Value):(W.alloc (.cells #[c0,c1,c2,c3,c4] 91)).cell? ((⟨W.heap.size,0,none⟩:Addr).add 0) = some c0 /\ (W.alloc (.cells #[c0,c1,c2,c3,c4] 91)).cell? ((⟨W.heap.size,0,none⟩:Addr).add 1) = some c1 /\ (W.alloc (.cells #[c0,c1,c2,c3,c4] 91)).cell? ((⟨W.heap.size,0,none⟩:Addr).add 2) = some c2 /\ (W.alloc (.cells #[c0,c1,c2,c3,c4] 91)).cell? ((⟨W.heap.size,0,none⟩:Addr).add 3) = some c3 /\ (W.alloc (.cells #[c0,c1,c2,c3,c4] 91)).cell? ((⟨W.heap.size,0,none⟩:Addr).add 4) = some c4:=by
 have h:(W.alloc (.cells #[c0,c1,c2,c3,c4] 91)).heap[W.heap.size]? = some (.cells #[c0,c1,c2,c3,c4] 91 (0,0)):=by
  show (W.heap.push _)[W.heap.size]? = _
  exact Array.getElem?_push_size
 exact ⟨by rw [Addr.add_lit,Lib.cell_of_heap h];rfl,by rw [Addr.add_lit,Lib.cell_of_heap h];rfl,by rw [Addr.add_lit,Lib.cell_of_heap h];rfl,by rw [Addr.add_lit,Lib.cell_of_heap h];rfl,by rw [Addr.add_lit,Lib.cell_of_heap h];rfl⟩
theorem step_level {ops:Array Oper} {o:Oper} {a:Act} {w:World} {K:Act -> World -> Prop} {Q:Exit -> Act -> World -> Prop} {E:Prop} (hgd:o.guard = none) (s x:Operand)
  (ho:o.op = .call { callee:=.builtin .append,args:=#[s,x],argTypes:=#[92,92] })
  (B:Nat) (v:Value) (st:List LevV) (hs:a.eval s = v) (hb:w.ownsRow B 91 5 v st.length (levVals st.reverse)) (hB:B <= w.heap.size) (ad:Addr) (h:NdH) (A A2 A3:Option Addr) (m c m2 c2 m3 c3:Nat) (R:Tr)
  (hx:a.eval x = .slice (some ad) 1 1) (h0:w.cell? (ad.add 0) = some (.string (str h.name))) (h1:w.cell? (ad.add 1) = some (.slice A m c)) (h2:w.cell? (ad.add 2) = some (.string (str h.text))) (h3:w.cell? (ad.add 3) = some (.slice A2 m2 c2)) (h4:w.cell? (ad.add 4) = some (.slice A3 m3 c3))
  (hlen:st.length + 1 <= 1073741824)
  (hk:∀ v' w',w'.ownsRow B 91 5 v' (st.length + 1) (levVals st.reverse ++ levVals [⟨h,.slice A m c,.slice A2 m2 c2,.slice A3 m3 c3,R⟩]) -> w.grownBy w' v.ownBlock -> K (a.put o.dst v') w') :
  if Region.wanted o (yielded ops a.tmps) = true then Oper.wp Tryz.prog o a w K Q else E:=by
 have hw:Region.wanted o (yielded ops a.tmps) = true:=by simp [Region.wanted,hgd]
 rw [if_pos hw];obtain ⟨i0,hi,hz0,hz1,hz2⟩:=info_parts info_level;refine wp_append_own _ s x 92 ho B 91 i0 _ 5 104 Tryz.underlying92 hi hz0 hz1 hz2 rfl (by decide) v st.length (levVals st.reverse) hs hb ad 1 1 (levVals [⟨h,.slice A m c,.slice A2 m2 c2,.slice A3 m3 c3,R⟩]) hx rfl ?_ ?_ (by unfold maxLen;omega) (by omega) hB ?_
 ·intro j u hj
  match j,hj with
  | 0,hj=>simp [levVals] at hj;subst hj;exact h0
  | 1,hj=>simp [levVals] at hj;subst hj;exact h1
  | 2,hj=>simp [levVals] at hj;subst hj;exact h2
  | 3,hj=>simp [levVals] at hj;subst hj;exact h3
  | 4,hj=>simp [levVals] at hj;subst hj;exact h4
  | (j + 5),hj=>simp [levVals] at hj
 ·intro u hu;simp [levVals] at hu;rcases hu with rfl | rfl | rfl | rfl | rfl <;> rfl
 ·intro v' w' ho' hg _;exact hk v' w' ho' hg
def ndV (h:NdH) (av kv:Value):Value:=.agg #[.string (str h.name),av,.string (str h.text),kv]
def BegOK {σ:Type} (B Kb:Nat) (cb:Array Value) (Inv:σ -> World -> Prop) (bg:σ -> NdH -> Tr -> σ) (dv:NdH -> Bool) (μ:σ -> Nat) (M:Nat) (G:NdH -> Tr -> Prop):Prop :=
  ∀ (s:σ) (w:World) (h:NdH) (K:Tr) (av:Value) (A:Option Addr) (m c:Nat),Inv s w -> B <= w.heap.size -> G h K -> AttrsC (fun b=>b < B) w av h.attrs -> NodesC (fun b=>b < B) w (.slice A m c) K -> μ (bg s h K) <= M ->
    Calls Tryz.prog Kb (#[ndV h av (.slice A m c)] ++ cb) w fun e w'=>e = .returned (if dv h = true then .slice A m c else .slice none 0 0) /\ Inv (bg s h K) w' /\ FrL B w w'
def EndOK {σ:Type} (B Ke:Nat) (ce:Array Value) (Inv:σ -> World -> Prop) (en:σ -> NdH -> σ) (μ:σ -> Nat) (M:Nat):Prop :=
  ∀ (s:σ) (w:World) (h:NdH) (K:Tr) (av kv:Value),Inv s w -> B <= w.heap.size -> AttrsC (fun b=>b < B) w av h.attrs -> NodesC (fun b=>b < B) w kv K -> μ (en s h) <= M ->
    Calls Tryz.prog Ke (#[ndV h av kv] ++ ce) w fun e w'=>e = .returned (.tuple #[]) /\ Inv (en s h) w' /\ FrL B w w'
def InvOK {σ:Type} (B:Nat) (Inv:σ -> World -> Prop):Prop :=
  ∀ (s:σ) (w w':World) (row:Option Nat),Inv s w -> w.grownBy w' row -> (∀ k,row = some k -> B <= k /\ ∃ cur,w.heap[k]? = some (Obj.cells cur 91 (0,0))) -> Inv s w'
def GoneS {σ:Type} (B:Nat) (Inv:σ -> World -> Prop) (bg:σ -> NdH -> Tr -> σ) (en:σ -> NdH -> σ) (dv:NdH -> Bool) (G:NdH -> Tr -> Prop) (F:σ) (gk:Nat) (r:Value) (W0 w:World):Prop :=
  ∃ (st:List LevV) (s:σ),st ≠ [] /\ LS B r st W0 w /\ Inv s w /\ unw bg en dv (st.map LevV.toP) s = F /\ stepsW (st.map LevV.toP) <= gk /\ gk <= 4000000 /\ ∀ p ∈ st,p.R.ev G
theorem pushedL {σ:Type} {B:Nat} {Inv:σ -> World -> Prop} (hinv:InvOK B Inv) {g m cap:Nat} {st:List LevV} {w wr w3 w5:World} {v':Value} {s:σ} {q:LevV} {ob:Obj} {K:Tr} (hl:LS B (.slice (some ⟨g,0,none⟩) m cap) st w w3) (hi:Inv s w3) (hbb:Below B wr w3)
  (h1:NodesC (fun b=>b < B) wr q.lv q.R) (h2:AttrsC (fun b=>b < B) wr q.av q.h.attrs) (h3:NodesC (fun b=>b < B) wr q.kv K) (ho:w5.ownsRow B 91 5 v' (st.length + 1) (levVals st.reverse ++ levVals [q])) (hg:(w3.alloc ob).grownBy w5 (Value.slice (some ⟨g,0,none⟩) m cap).ownBlock) :
  LS B v' (q :: st) w w5 /\ Inv s w5:=by
 have hbo:=below_one w3 ob;have hl4:=hl.kept hbo;have hb4:Below B wr (w3.alloc ob):=hbb.trans (hbo.mono hl.size);refine ⟨hl4.push (h1.mono (same_below hb4) (fun _ x=>x)) ⟨h2.mono (same_below hb4) (fun _ x=>x),K,h3.mono (same_below hb4) (fun _ x=>x)⟩ ho hg,?_⟩;refine hinv s _ w5 _ (hinv s w3 _ none hi (World.grownBy_alloc w3 _ none) (fun k e=>by cases e)) hg (fun k e=>?_);obtain rfl:g = k:=by simpa [Value.ownBlock] using e
 exact hl4.lev
set_option maxHeartbeats 32000000 in
theorem walk_gen {σ : Type} (B Kb Ke : Nat) (cb ce : Array Value) (hKb : ∀ args w, (callFunc Kb args).run Tryz.prog w = .ok (.enter Kb args) w) (hKe : ∀ args w, (callFunc Ke args).run Tryz.prog w = .ok (.enter Ke args) w)
    (Inv : σ → World → Prop) (bg : σ → NdH → Tr → σ) (en : σ → NdH → σ) (dv : NdH → Bool) (μ : σ → Nat) (M : Nat) (G : NdH → Tr → Prop) (hmb : ∀ s h K, μ s ≤ μ (bg s h K)) (hme : ∀ s h, μ s ≤ μ (en s h))
    (hinv : InvOK B Inv) (hbeg : BegOK B Kb cb Inv bg dv μ M G) (hend : EndOK B Ke ce Inv en μ M)
    (v : Value) (T : Tr) (s0 : σ) (w : World) (hT : NodesC (fun b => b < B) w v T) (hG : T.ev G) (hc : T.count ≤ 1000000) (hM : μ (vis bg en dv T s0) ≤ M) (h0 : Inv s0 w) (hB : B ≤ w.heap.size) :
    Calls Tryz.prog 20 #[v, .func (.func Kb) #[] cb, .func (.func Ke) #[] ce] w fun e w' => e = .returned (.tuple #[]) ∧ Inv (vis bg en dv T s0) w' ∧ Below B w w' := by
  obtain ⟨F, hF⟩ : ∃ F, F = vis bg en dv T s0 := ⟨_, rfl⟩
  rw [← hF] at hM ⊢
  obtain ⟨VA, VC, hv⟩ := hT.form
  have hls : LS B (.slice (some ⟨w.heap.size, 0, none⟩) 1 1) [⟨⟨[], [], []⟩, .slice none 0 0, .slice none 0 0, v, T⟩] w (w.alloc (.cells #[.string ⟨#[]⟩, .slice none 0 0, .string ⟨#[]⟩, .slice none 0 0, v] 91)) := by
    have hb := (below_one w (Obj.cells #[.string ⟨#[]⟩, .slice none 0 0, .string ⟨#[]⟩, .slice none 0 0, v] 91)).mono hB
    refine ⟨World.ownsRow_lit (base := B) (e := 91) (size := 5) w #[.string ⟨#[]⟩, .slice none 0 0, .string ⟨#[]⟩, .slice none 0 0, v] 1 hB (by decide) rfl, fun p hp => ?_, fun p hp => ?_, hb, Nat.le_trans hB hb.size⟩
    · obtain rfl := List.mem_singleton.1 hp
      exact hT.mono (same_below hb) (fun _ x => x)
    · obtain rfl := List.mem_singleton.1 hp
      exact ⟨⟨.inl ⟨rfl, rfl⟩, fun a n c e => (by cases e)⟩, .nil, .inl ⟨rfl, rfl⟩⟩
  have hinv0 : Inv s0 (w.alloc (.cells #[.string ⟨#[]⟩, .slice none 0 0, .string ⟨#[]⟩, .slice none 0 0, v] 91)) := hinv s0 w _ none h0 (World.grownBy_alloc w _ none) (fun k e => by cases e)
  have HS : Hid (GoneS B Inv bg en dv G F (2 * T.count + 1) (.slice (some ⟨w.heap.size, 0, none⟩) 1 1) w (w.alloc (.cells #[.string ⟨#[]⟩, .slice none 0 0, .string ⟨#[]⟩, .slice none 0 0, v] 91))) :=
    hide ⟨_, s0, by simp, hls, hinv0, hF.symm, by simp [stepsW, LevV.toP], by omega, fun p hp => by obtain rfl := List.mem_singleton.1 hp; exact hG⟩
  have HINV := hide hinv
  have HBEG := hide hbeg
  have HEND := hide hend
  have HM := hide hM
  have HKB := hide hKb
  have HKE := hide hKe
  have HMB := hide (And.intro hmb hme)
  subst hv
  clear hinv hbeg hend hM hT hG hc h0 hF hls hinv0 hmb hme
  go_enter Tryz.func20, Tryz.ntmps20
  go_wp2_with fail
  go_loopg [6, 7, 8] (2 * T.count + 1) (fun gk r u7 u8 wr => Hid (GoneS B Inv bg en dv G F gk r w wr))
  case atStart => exact HS.out
  case round =>
    obtain ⟨st, s, hne, hl, hi, hu, hstep, hbig, hev⟩ := hrel.out
    match st, hne with
    | p :: rest, _ =>
    obtain ⟨g, cap, rfl, i1, i2, i3, i4⟩ := hl.form (by simp)
    have hl2 : LS B (.slice (some ⟨g, 0, none⟩) (rest.length + 1) cap) (p :: rest) w wr := hl
    have hlen : rest.length ≤ 4000000 := by
      have h1 := steps_len ((p :: rest).map LevV.toP)
      simp only [List.length_map, List.length_cons] at h1
      omega
    obtain ⟨e0, e1, e2, e3, e4, ef⟩ := hl2.cells
    have tn1 : wrap64 ((rest.length : Int) + 1 - 1) = (rest.length : Int) := by unfold wrap64; omega
    have tn5 : (rest.length : Int) < (rest.length : Int) + 1 := by omega
    have HI := hide hi
    have HCP := hide (And.intro i1 i2)
    have HEV := hide hev
    have hleft := hl2.left p (List.mem_cons_self ..)
    have HL := hide hl2
    have HHB := hide hbig
    have HST := hide hstep
    have HLN := hide hlen
    obtain ⟨AA, AC, hav⟩ := (hl2.node p (List.mem_cons_self ..)).1.1.form
    obtain ⟨KK, hKK⟩ := (hl2.node p (List.mem_cons_self ..)).2
    obtain ⟨KA, KC, hkv⟩ := hKK.form
    have HKK := hide hKK
    have HAV := hide hav
    have HKV := hide hkv
    rw [hav] at e1
    rw [hkv] at e3
    obtain ⟨LA, LC, hlv⟩ := hleft.form
    have HLV := hide hlv
    rw [hlv] at e4
    have hlv' := hlv
    clear hl hl2 hi i1 i2 i3 i4 hev hbig hstep hne hrel hKK hav hkv hlv hlen
    cases hR : p.R with
    | nil =>
      rw [hR] at e4
      have e4' : wr.cell? ⟨g, rest.length * 5 + 4, none⟩ = some (.slice LA 0 LC) := e4
      clear e4
      match rest, hu, HL, HI, HEV, HST, HLN, e0, e1, e2, e3, e4', tn1, tn5, HCP with
      | [], hu, HL, HI, HEV, HST, HLN, e0, e1, e2, e3, e4', tn1, tn5, HCP =>
        have hFs : s = F := by
          rw [← hu]
          show s = vis bg en dv p.R s
          rw [hR]; rfl
        have HE : Hid (Inv F wr ∧ Below B w wr) := hide ⟨by rw [← hFs]; exact HI.out, HL.out.below⟩
        clear hu hFs hR hleft
        simp only [List.length_nil, Nat.zero_mul, Nat.zero_add] at e0 e1 e2 e3 e4'
        clear tn1 tn5
        go_wp2_with fail
        try simp only [Exit.inBlock, Exit.then]
        refine bodyPost_ret (results_none rfl _ _ _) rfl ?_
        exact ⟨rfl, HE.out⟩
      | q :: rest, hu, HL, HI, HEV, HST, HLN, e0, e1, e2, e3, e4', tn1, tn5, HCP =>
        have hu2 : unw bg en dv ((q :: rest).map LevV.toP) (en s p.h) = F := by
          rw [← hu]
          show _ = unw bg en dv ((p.h, p.R) :: q.toP :: rest.map LevV.toP) s
          rw [hR]; rfl
        have hM2 : μ (en s p.h) ≤ M := Nat.le_trans (unw_mono bg en dv μ HMB.out.1 HMB.out.2 ((q :: rest).map LevV.toP) (en s p.h)) (by rw [hu2]; exact HM.out)
        have hen := HEND.out s wr p.h KK (.slice AA p.h.attrs.length AC) (.slice KA KK.len KC) HI.out HL.out.size (by rw [← HAV.out]; exact (HL.out.node p (List.mem_cons_self ..)).1) (by rw [← HKV.out]; exact HKK.out) hM2
        unfold ndV at hen
        have HEN := hide hen
        have HU2 := hide hu2
        obtain ⟨X0, hX0⟩ : ∃ X, X = str p.h.name := ⟨_, rfl⟩
        obtain ⟨X1, hX1⟩ : ∃ X, X = str p.h.text := ⟨_, rfl⟩
        simp only [List.length_cons] at e0 e1 e2 e3 e4' tn1 tn5
        rw [← hX0] at e0 HEN
        rw [← hX1] at e2 HEN
        have t8 : decide ((1 : Int) < (rest.length : Int) + 1 + 1) = true := decide_eq_true (by omega)
        have hln : rest.length + 1 ≤ 4000000 := by have := HLN.out; simp only [List.length_cons] at this; exact this
        clear hu hu2 hM2 hen hleft hR hX0 hX1 tn1 tn5
        have hsl1 : (0 : Int) ≤ (rest.length : Int) + 1 := by omega
        have hsl2 : (rest.length : Int) + 1 ≤ (cap : Int) := by have := HCP.out.1; simp only [List.length_cons] at this; omega
        have hsl3 : ((rest.length : Int) + 1).toNat = rest.length + 1 := by omega
        go_wp2_with fail
        refine HEN.out.mono ?_
        rintro e w1 ⟨rfl, hi1, hf1⟩
        have HI1 := hide hi1
        have HF1 := hide hf1
        clear hi1 hf1 e0 e1 e2 e3 e4'
        go_wp2_with fail
        cases gk with
        | zero => exact absurd HST.out (by simp only [List.map_cons, stepsW]; omega)
        | succ gk =>
        go_roundg gk
        case rel =>
          refine hide ⟨q :: rest, en s p.h, by simp, (LS.frame HL.out HF1.out).pop, HI1.out, HU2.out, ?_, by have := HHB.out; omega, fun x hx => HEV.out x (List.mem_cons_of_mem _ hx)⟩
          have h1 := HST.out
          simp only [List.map_cons, stepsW] at h1 ⊢
          omega
        case measure => omega
    | cons h K R =>
      rw [hR] at e4 hleft
      rw [hlv'] at hleft
      have hcapL := hleft.cap
      have HLVC := hide hcapL.2.2
      obtain ⟨a, rfl, hat, hcl⟩ : ∃ a, LA = some a ∧ NodesAt (fun b => b < B) wr (.cons h K R) a ∧ R.len + 1 ≤ LC := by
        rcases hleft with ⟨h1, h2⟩ | ⟨a, cp, h1, h2, h3, h4⟩
        · cases h2
        · injection h1 with e5 e6 e7
          subst e7
          exact ⟨a, e5, h4, h2⟩
      obtain ⟨n0, n1, n2, ⟨uA, n3, n4⟩, ⟨uK, n5, n6⟩, n7⟩ := hat
      obtain ⟨NA, NC, rfl⟩ := n4.1.form
      have n6' : NodesC (fun b => b < B) wr uK K := n6
      obtain ⟨MA, MC, rfl⟩ := n6'.form
      have hnl : ∀ ad : Addr, ({ block := a.block, off := a.off + 1 } : Addr) = a.add 1 ∧ ({ block := a.block, off := a.off + 2 } : Addr) = a.add 2 ∧ ({ block := a.block, off := a.off + 3 } : Addr) = a.add 3 := fun _ => ⟨rfl, rfl, rfl⟩
      have m1 : wr.cell? { block := a.block, off := a.off + 1 } = some (.slice NA h.attrs.length NC) := n3
      have m2 : wr.cell? { block := a.block, off := a.off + 2 } = some (.string (str h.text)) := n2
      have m3 : wr.cell? { block := a.block, off := a.off + 3 } = some (.slice MA K.len MC) := n5
      obtain ⟨X0, hX0⟩ : ∃ X, X = str h.name := ⟨_, rfl⟩
      obtain ⟨X1, hX1⟩ : ∃ X, X = str h.text := ⟨_, rfl⟩
      rw [← hX0] at n1
      rw [← hX1] at m2
      have HX := hide (And.intro hX0 hX1)
      have HNA := hide n4
      have HNK := hide n6'
      have hLg : g ≠ wr.heap.size := by
        have := World.block_lt_of_cell? _ _ e4
        exact Nat.ne_of_lt this
      have t4 : decide ((0 : Int) < (R.len : Int) + 1) = true := decide_eq_true (by omega)
      have e4' : wr.cell? ⟨g, rest.length * 5 + 4, none⟩ = some (.slice (some a) (R.len + 1) LC) := e4
      have hln : rest.length ≤ 4000000 := HLN.out
      have hrln : R.len ≤ 4000000 := by
        have h1 := HST.out
        have h2 := HHB.out
        simp only [List.map_cons, stepsW] at h1
        rw [show p.toP.2 = p.R from rfl, hR] at h1
        simp only [Tr.count] at h1
        have h3 := Tr.len_count R
        omega
      have hst2 : stepsW ((h, inner dv h K) :: (p.h, R) :: rest.map LevV.toP) + 1 ≤ gk := by
        have h1 := HST.out
        simp only [List.map_cons, stepsW] at h1
        rw [show p.toP.2 = p.R from rfl, hR] at h1
        simp only [Tr.count] at h1
        simp only [stepsW]
        have := inner_count dv h K
        omega
      have hu2 : unw bg en dv ((h, inner dv h K) :: (p.h, R) :: rest.map LevV.toP) (bg s h K) = F := by
        rw [← unw_visit, ← hu]
        show _ = unw bg en dv ((p.h, p.R) :: rest.map LevV.toP) s
        rw [hR]
      have hM2 : μ (bg s h K) ≤ M := Nat.le_trans (unw_mono bg en dv μ HMB.out.1 HMB.out.2 _ (bg s h K)) (by rw [hu2]; exact HM.out)
      obtain ⟨hGk, hGK, hGR⟩ : G h K ∧ K.ev G ∧ R.ev G := by
        have := HEV.out p (List.mem_cons_self ..)
        rw [hR] at this
        exact this
      have HU2 := hide hu2
      have HS2 := hide hst2
      have HM2 := hide hM2
      have HGG := hide (And.intro hGk (And.intro hGK hGR))
      clear hu hu2 hst2 hM2 hGk hGK hGR hR
      have e4a : ∀ ob, (wr.alloc ob).cell? ⟨g, rest.length * 5 + 4, none⟩ = some (.slice (some a) (R.len + 1) LC) := fun ob => ((below_one wr ob).cell (World.block_lt_of_cell? _ _ e4')).trans e4'
      have efa : ∀ ob i, (wr.alloc ob).frozen? ⟨g, i, none⟩ = false := fun ob i => ((below_one wr ob).frozen (p := ⟨g, i, none⟩) (show g < wr.heap.size from World.block_lt_of_cell? _ _ e4')).trans (ef i)
      clear e4 e0 e1 e2 e3 tn1 n0 n2 n3 n4 n5 n6 n6' hX0 hX1 hnl
      -- the node's box, and what is left
      have hbk := below_one wr (Obj.cells #[.string X0, .slice NA h.attrs.length NC, .string X1, .slice MA K.len MC] 36)
      have HL2 : Hid (∀ u, NodesC (fun b => b < B) wr u R → LS B (.slice (some ⟨g, 0, none⟩) (rest.length + 1) cap) ({ p with lv := u, R := R } :: rest) w ((wr.alloc (Obj.cells #[.string X0, .slice NA h.attrs.length NC, .string X1, .slice MA K.len MC] 36)).setCell ⟨g, rest.length * 5 + 4, none⟩ u) ∧ Inv s ((wr.alloc (Obj.cells #[.string X0, .slice NA h.attrs.length NC, .string X1, .slice MA K.len MC] 36)).setCell ⟨g, rest.length * 5 + 4, none⟩ u)) := hide fun u hu => by
        have hl3 := HL.out.kept hbk
        obtain ⟨k1, k2⟩ := hl3.putLeft u R (hu.mono (same_below (hbk.mono HL.out.size)) (fun _ x => x))
        refine ⟨k1, HINV.out s _ _ (some g) (HINV.out s wr _ none HI.out (World.grownBy_alloc wr _ none) (fun k e => by cases e)) k2 (fun k e => ?_)⟩
        injection e with e
        subst e
        exact hl3.lev
      have HBX : Hid (∀ u, ((wr.alloc (Obj.cells #[.string X0, .slice NA h.attrs.length NC, .string X1, .slice MA K.len MC] 36)).setCell ⟨g, rest.length * 5 + 4, none⟩ u).heap[wr.heap.size]? = some (Obj.cells #[.string X0, .slice NA h.attrs.length NC, .string X1, .slice MA K.len MC] 36 (0, 0))) := hide fun u =>
        (Below.heap_setCell _ ⟨g, rest.length * 5 + 4, none⟩ u wr.heap.size (fun e => hLg e.symm)).trans (heap_alloc_new wr _)
      have HBW : Hid (∀ u, Below B wr ((wr.alloc (Obj.cells #[.string X0, .slice NA h.attrs.length NC, .string X1, .slice MA K.len MC] 36)).setCell ⟨g, rest.length * 5 + 4, none⟩ u)) := hide fun u => (hbk.mono HL.out.size).setCell (p := ⟨g, rest.length * 5 + 4, none⟩) HL.out.lev.1 u
      obtain ⟨IA, IM, IC, hI1, hI2⟩ : ∃ A m c, (if dv h = true then Value.slice MA K.len MC else .slice none 0 0) = .slice A m c ∧ NodesC (fun b => b < B) wr (.slice A m c) (inner dv h K) := by
        unfold inner
        split
        · exact ⟨_, _, _, rfl, HNK.out⟩
        · exact ⟨_, _, _, rfl, .inl ⟨rfl, rfl⟩⟩
      have HI1 := hide hI1
      have HI2 := hide hI2
      have HN7 := hide n7
      have HC1 := hide hcl
      clear hbk hI1 hI2 n7 hcl hLg hleft hcapL
      by_cases hc1 : LC = 1
      · have hu : NodesC (fun b => b < B) wr (.slice (some a) 0 0) R := by
          cases R with
          | nil => exact .inr ⟨a, 0, rfl, Nat.le_refl _, Nat.zero_le _, trivial⟩
          | cons h' K' R' => have := HC1.out; simp only [Tr.len] at this; omega
        have hr0 : R.len = 0 := by have := HC1.out; omega
        have HUU := hide hu
        clear hu
        subst hc1
        go_wp2_with fail
        obtain ⟨hls2, hinv2⟩ := HL2.out (.slice (some a) 0 0) HUU.out
        have hbx2 := HBX.out (.slice (some a) 0 0)
        have hbw2 := HBW.out (.slice (some a) 0 0)
        clear e4a efa e4' n1 m1 m2 m3 t4
        generalize ((wr.alloc (Obj.cells #[.string X0, .slice NA h.attrs.length NC, .string X1, .slice MA K.len MC] 36)).setCell ⟨g, rest.length * 5 + 4, none⟩ (.slice (some a) 0 0)) = W2 at hls2 hinv2 hbx2 hbw2 ⊢
        have y0 : W2.cell? ⟨wr.heap.size, 0, none⟩ = some (.string X0) := by rw [Lib.cell_of_heap hbx2]; rfl
        have y1 : W2.cell? ⟨wr.heap.size, 1, none⟩ = some (.slice NA h.attrs.length NC) := by rw [Lib.cell_of_heap hbx2]; rfl
        have y2 : W2.cell? ⟨wr.heap.size, 2, none⟩ = some (.string X1) := by rw [Lib.cell_of_heap hbx2]; rfl
        have y3 : W2.cell? ⟨wr.heap.size, 3, none⟩ = some (.slice MA K.len MC) := by rw [Lib.cell_of_heap hbx2]; rfl
        have hbd : Below B wr W2.drew := hbw2.drew
        have hcall := HBEG.out s W2.drew h K (.slice NA h.attrs.length NC) MA K.len MC (HINV.out s W2 W2.drew none hinv2 ⟨rfl, rfl, rfl, Nat.le_refl _, fun _ _ _ => rfl⟩ (fun k e => by cases e)) hls2.size HGG.out.1 (HNA.out.mono (same_below hbd) (fun _ x => x)) (HNK.out.mono (same_below hbd) (fun _ x => x)) HM2.out
        unfold ndV at hcall
        rw [← HX.out.1, ← HX.out.2, HI1.out] at hcall
        have HCALL := hide hcall
        have HLS2 := hide (hls2.kept (w' := W2.drew) (Below.refl _ _).drew)
        have HBX2 := hide hbx2
        have HBD := hide hbd
        clear hcall hls2 hinv2 hbx2 hbw2 hbd
        go_region_law (first
          | (refine step_level rfl _ _ rfl B (.slice (some ⟨g, 0, none⟩) (rest.length + 1) cap) ({ p with lv := .slice (some a) 0 0, R := R } :: rest) rfl ?_ ?_ ⟨w3.heap.size, 0, none⟩ h NA MA IA h.attrs.length NC K.len MC IM IC (inner dv h K) rfl ((lev_row _ _ _ _ _ _).1.trans (by rw [HX.out.1])) (lev_row _ _ _ _ _ _).2.1 ((lev_row _ _ _ _ _ _).2.2.1.trans (by rw [HX.out.2])) (lev_row _ _ _ _ _ _).2.2.2.1 (lev_row _ _ _ _ _ _).2.2.2.2 (by have := HLN.out; simp only [List.length_cons]; omega) ?_
             · exact (HL3.out.kept (below_one w3 _)).row
             · exact Nat.le_trans HL3.out.size (below_one w3 _).size
             intro v' w5 ho2 hg2
             obtain ⟨hl5, hi5⟩ := pushedL (q := ⟨h, .slice NA h.attrs.length NC, .slice MA K.len MC, .slice IA IM IC, inner dv h K⟩) (K := K) HINV.out HL3.out HI3.out HB3.out HI2.out HNA.out HNK.out ho2 hg2
             obtain ⟨ao, n', c', rfl⟩ : ∃ ao n' c', v' = .slice ao n' c' := by
               rcases ho2.2 with ⟨hv, _⟩ | ⟨g0, c0, cur, hv, _⟩
               · exact ⟨_, _, _, hv⟩
               · exact ⟨_, _, _, hv⟩
             have HL5 := hide hl5
             have HI5 := hide hi5
             clear ho2 hg2 hl5 hi5)
          | (go_simp; (with_reducible refine HCALL.out.mono ?_); rintro e w3 ⟨rfl, hi3, hf3⟩; have hb3 := (hf3.2 wr.heap.size _ _ _ HBX2.out (.inr rfl)).trans HBX2.out; have z0 : w3.cell? ⟨wr.heap.size, 0, none⟩ = some (.string X0) := (Lib.cell_of_heap hb3 0).trans rfl; have z1 : w3.cell? ⟨wr.heap.size, 1, none⟩ = some (.slice NA h.attrs.length NC) := (Lib.cell_of_heap hb3 1).trans rfl; have z2 : w3.cell? ⟨wr.heap.size, 2, none⟩ = some (.string X1) := (Lib.cell_of_heap hb3 2).trans rfl; have z3 : w3.cell? ⟨wr.heap.size, 3, none⟩ = some (.slice MA K.len MC) := (Lib.cell_of_heap hb3 3).trans rfl; have HI3 := hide hi3; have HL3 := hide (HLS2.out.frame hf3); have HB3 := hide (HBD.out.trans hf3.1); clear hi3 hf3 hb3))
        all_goals
          go_wp2_with fail
          cases gk with
          | zero => exact absurd HS2.out (Nat.not_succ_le_zero _)
          | succ gk =>
          go_roundg gk
          case rel =>
            refine hide ⟨_, bg s h K, by simp, HL5.out, HI5.out, HU2.out, Nat.le_of_succ_le_succ HS2.out, by have := HHB.out; omega, fun x hx => ?_⟩
            rcases List.mem_cons.1 hx with rfl | hx
            · exact inner_ev dv HGG.out.2.1
            · rcases List.mem_cons.1 hx with rfl | hx
              · exact HGG.out.2.2
              · exact HEV.out x (List.mem_cons_of_mem _ hx)
          case measure => omega
      · have hu : NodesC (fun b => b < B) wr (.slice (some { block := a.block, off := a.off + 4 }) R.len (LC - 1)) R := .inr ⟨a.add 4, LC - 1, rfl, by have := HC1.out; omega, by have := HCP.out.2; have := HLVC.out; omega, HN7.out⟩
        have HUU := hide hu
        clear hu
        go_wp2_with fail
        obtain ⟨hls2, hinv2⟩ := HL2.out (.slice (some { block := a.block, off := a.off + 4 }) R.len (LC - 1)) HUU.out
        have hbx2 := HBX.out (.slice (some { block := a.block, off := a.off + 4 }) R.len (LC - 1))
        have hbw2 := HBW.out (.slice (some { block := a.block, off := a.off + 4 }) R.len (LC - 1))
        clear e4a efa e4' n1 m1 m2 m3 t4
        generalize ((wr.alloc (Obj.cells #[.string X0, .slice NA h.attrs.length NC, .string X1, .slice MA K.len MC] 36)).setCell ⟨g, rest.length * 5 + 4, none⟩ (.slice (some { block := a.block, off := a.off + 4 }) R.len (LC - 1))) = W2 at hls2 hinv2 hbx2 hbw2 ⊢
        have y0 : W2.cell? ⟨wr.heap.size, 0, none⟩ = some (.string X0) := by rw [Lib.cell_of_heap hbx2]; rfl
        have y1 : W2.cell? ⟨wr.heap.size, 1, none⟩ = some (.slice NA h.attrs.length NC) := by rw [Lib.cell_of_heap hbx2]; rfl
        have y2 : W2.cell? ⟨wr.heap.size, 2, none⟩ = some (.string X1) := by rw [Lib.cell_of_heap hbx2]; rfl
        have y3 : W2.cell? ⟨wr.heap.size, 3, none⟩ = some (.slice MA K.len MC) := by rw [Lib.cell_of_heap hbx2]; rfl
        have hbd : Below B wr W2.drew := hbw2.drew
        have hcall := HBEG.out s W2.drew h K (.slice NA h.attrs.length NC) MA K.len MC (HINV.out s W2 W2.drew none hinv2 ⟨rfl, rfl, rfl, Nat.le_refl _, fun _ _ _ => rfl⟩ (fun k e => by cases e)) hls2.size HGG.out.1 (HNA.out.mono (same_below hbd) (fun _ x => x)) (HNK.out.mono (same_below hbd) (fun _ x => x)) HM2.out
        unfold ndV at hcall
        rw [← HX.out.1, ← HX.out.2, HI1.out] at hcall
        have HCALL := hide hcall
        have HLS2 := hide (hls2.kept (w' := W2.drew) (Below.refl _ _).drew)
        have HBX2 := hide hbx2
        have HBD := hide hbd
        clear hcall hls2 hinv2 hbx2 hbw2 hbd
        go_region_law (first
          | (refine step_level rfl _ _ rfl B (.slice (some ⟨g, 0, none⟩) (rest.length + 1) cap) ({ p with lv := .slice (some { block := a.block, off := a.off + 4 }) R.len (LC - 1), R := R } :: rest) rfl ?_ ?_ ⟨w3.heap.size, 0, none⟩ h NA MA IA h.attrs.length NC K.len MC IM IC (inner dv h K) rfl ((lev_row _ _ _ _ _ _).1.trans (by rw [HX.out.1])) (lev_row _ _ _ _ _ _).2.1 ((lev_row _ _ _ _ _ _).2.2.1.trans (by rw [HX.out.2])) (lev_row _ _ _ _ _ _).2.2.2.1 (lev_row _ _ _ _ _ _).2.2.2.2 (by have := HLN.out; simp only [List.length_cons]; omega) ?_
             · exact (HL3.out.kept (below_one w3 _)).row
             · exact Nat.le_trans HL3.out.size (below_one w3 _).size
             intro v' w5 ho2 hg2
             obtain ⟨hl5, hi5⟩ := pushedL (q := ⟨h, .slice NA h.attrs.length NC, .slice MA K.len MC, .slice IA IM IC, inner dv h K⟩) (K := K) HINV.out HL3.out HI3.out HB3.out HI2.out HNA.out HNK.out ho2 hg2
             obtain ⟨ao, n', c', rfl⟩ : ∃ ao n' c', v' = .slice ao n' c' := by
               rcases ho2.2 with ⟨hv, _⟩ | ⟨g0, c0, cur, hv, _⟩
               · exact ⟨_, _, _, hv⟩
               · exact ⟨_, _, _, hv⟩
             have HL5 := hide hl5
             have HI5 := hide hi5
             clear ho2 hg2 hl5 hi5)
          | (go_simp; (with_reducible refine HCALL.out.mono ?_); rintro e w3 ⟨rfl, hi3, hf3⟩; have hb3 := (hf3.2 wr.heap.size _ _ _ HBX2.out (.inr rfl)).trans HBX2.out; have z0 : w3.cell? ⟨wr.heap.size, 0, none⟩ = some (.string X0) := (Lib.cell_of_heap hb3 0).trans rfl; have z1 : w3.cell? ⟨wr.heap.size, 1, none⟩ = some (.slice NA h.attrs.length NC) := (Lib.cell_of_heap hb3 1).trans rfl; have z2 : w3.cell? ⟨wr.heap.size, 2, none⟩ = some (.string X1) := (Lib.cell_of_heap hb3 2).trans rfl; have z3 : w3.cell? ⟨wr.heap.size, 3, none⟩ = some (.slice MA K.len MC) := (Lib.cell_of_heap hb3 3).trans rfl; have HI3 := hide hi3; have HL3 := hide (HLS2.out.frame hf3); have HB3 := hide (HBD.out.trans hf3.1); clear hi3 hf3 hb3))
        all_goals
          go_wp2_with fail
          cases gk with
          | zero => exact absurd HS2.out (Nat.not_succ_le_zero _)
          | succ gk =>
          go_roundg gk
          case rel =>
            refine hide ⟨_, bg s h K, by simp, HL5.out, HI5.out, HU2.out, Nat.le_of_succ_le_succ HS2.out, by have := HHB.out; omega, fun x hx => ?_⟩
            rcases List.mem_cons.1 hx with rfl | hx
            · exact inner_ev dv HGG.out.2.1
            · rcases List.mem_cons.1 hx with rfl | hx
              · exact HGG.out.2.2
              · exact HEV.out x (List.mem_cons_of_mem _ hx)
          case measure => omega
theorem frL_box {B:Nat} {w w':World} {b:Nat} {cur:Array Value} {T:TypeId} {fz:Nat × Nat} (hb:Below B w w') (hx:∀ k,k < w.heap.size -> k ≠ b -> w'.heap[k]? = w.heap[k]?) (hc:w.heap[b]? = some (Obj.cells cur T fz)) (hT:T ≠ 91 /\ T ≠ 36):FrL B w w':=by
 refine ⟨hb,fun g cur2 T2 fz2 h2 hk=>hx g (lt_of_block h2) (fun e=>?_)⟩;subst e;rw [hc] at h2;injection h2 with h2;injection h2 with _ h2;subst h2;rcases hk with hk | hk
 ·exact hT.1 hk
 ·exact hT.2 hk
theorem box_inv {B b:Nat} {w w':World} {row:Option Nat} {cur:Array Value} {T:TypeId} {fz:Nat × Nat} (h:w.heap[b]? = some (Obj.cells cur T fz)) (hT:T ≠ 91) (hg:w.grownBy w' row) (hr:∀ k,row = some k -> B <= k /\ ∃ cur,w.heap[k]? = some (Obj.cells cur 91 (0,0))):w'.heap[b]? = some (Obj.cells cur T fz):=by
 rw [hg.block b (lt_of_block h) (fun e=>?_)]
 ·exact h
 ·obtain ⟨_,cur2,h2⟩:=hr b e.symm;rw [h] at h2;injection h2 with h2;injection h2 with _ h2;exact hT h2
theorem endNone {σ:Type} (B:Nat) (Inv:σ -> World -> Prop) (μ:σ -> Nat) (M:Nat) (hinv:InvOK B Inv):EndOK B 43 #[] Inv (fun s _=>s) μ M:=by
 intro s w h K av kv hi hB ha hk _;obtain ⟨A,c,rfl⟩:=ha.1.form;obtain ⟨A2,c2,rfl⟩:=hk.form;have HR:Hid (Inv s (w.alloc (Obj.cells #[.string (str h.name),.slice A h.attrs.length c,.string (str h.text),.slice A2 K.len c2] 36)) /\ FrL B w (w.alloc (Obj.cells #[.string (str h.name),.slice A h.attrs.length c,.string (str h.text),.slice A2 K.len c2] 36))):=hide ⟨hinv s w _ none hi (World.grownBy_alloc w _ none) (fun k e=>by cases e),FrL.kept (below_one w _) hB⟩;clear hi hB ha hk hinv;show Calls Tryz.prog _ #[ndV h _ _] w _
 unfold ndV;go_enter Tryz.func43,Tryz.ntmps43;go_wp2_with fail;go_end0;exact ⟨rfl,HR.out⟩
theorem begins_gen {σ:Type} (B Kb:Nat) (cb:Array Value) (hKb:∀ args w,(callFunc Kb args).run Tryz.prog w = .ok (.enter Kb args) w)
  (Inv:σ -> World -> Prop) (bg:σ -> NdH -> Tr -> σ) (dv:NdH -> Bool) (μ:σ -> Nat) (M:Nat) (G:NdH -> Tr -> Prop) (hmb:∀ s h K,μ s <= μ (bg s h K))
  (hinv:InvOK B Inv) (hbeg:BegOK B Kb cb Inv bg dv μ M G)
  (v:Value) (T:Tr) (s0:σ) (w:World) (hT:NodesC (fun b=>b < B) w v T) (hG:T.ev G) (hc:T.count <= 1000000) (hM:μ (vis bg (fun s _=>s) dv T s0) <= M) (h0:Inv s0 w) (hB:B <= w.heap.size) :
  Calls Tryz.prog 25 #[v,.func (.func Kb) #[] cb] w fun e w'=>e = .returned (.tuple #[]) /\ Inv (vis bg (fun s _=>s) dv T s0) w' /\ Below B w w':=by
 have HN:=hide (walk_gen B Kb 43 cb #[] hKb (enters_of Tryz.func43 (by kernel_rfl) rfl) Inv bg (fun s _=>s) dv μ M G hmb (fun s _=>Nat.le_refl _) hinv hbeg (endNone B Inv μ M hinv) v T s0 w hT hG hc hM h0 hB);obtain ⟨A,c,rfl⟩:=hT.form;clear hmb hinv hbeg hT hG hM h0 hB hKb;go_enter Tryz.func25,Tryz.ntmps25;go_wp2_with fail;refine HN.out.mono ?_;rintro e w1 ⟨rfl,h1⟩;have H1:=hide h1;clear h1;go_wp2_with fail;go_end0;exact ⟨rfl,H1.out⟩
def DepI (b:Nat) (s:DepS) (w:World):Prop:=w.heap[b]? = some (Obj.cells #[.int .i64 s.1] 3 (0,0)) /\ w.heap[b + 1]? = some (Obj.cells #[.int .i64 s.2.1] 3 (0,0)) /\ -(s.2.2:Int) <= s.1 /\ s.1 <= s.2.2 /\ -(s.2.2:Int) <= s.2.1 /\ s.2.1 <= s.2.2
theorem dep_inv (B b:Nat):InvOK B (DepI b):=fun n w w' row hi hg hr=>⟨box_inv hi.1 (by decide) hg hr,box_inv hi.2.1 (by decide) hg hr,hi.2.2⟩
theorem depth_beg (B:Nat) (M:Nat) (hM:M <= 4000000):BegOK B 21 #[.pointer (some ⟨B,0,none⟩),.pointer (some ⟨B + 1,0,none⟩)] (DepI B) (fun (s:DepS) _ _=>((s.1 + 1,max s.2.1 (s.1 + 1),s.2.2 + 1):DepS)) (fun _=>true) (fun s=>s.2.2) M (fun _ _=>True):=by
 intro s w h K av A m c hi hB _ ha hk hm;obtain ⟨d,x,n⟩:=s;obtain ⟨i1,i2,i3,i4,i5,i6⟩:=hi;simp only at i1 i2 i3 i4 i5 i6 hm;obtain ⟨A1,c1,rfl⟩:=ha.1.form;have hbk:=below_one w (Obj.cells #[.string (str h.name),.slice A1 h.attrs.length c1,.string (str h.text),.slice A m c] 36);have hlt:B + 1 < w.heap.size:=lt_of_block i2;obtain ⟨W,hW⟩:∃ W,W = w.alloc (Obj.cells #[.string (str h.name),.slice A1 h.attrs.length c1,.string (str h.text),.slice A m c] 36):=⟨_,rfl⟩
 rw [<- hW] at hbk;have hc1:W.heap[B]? = _:=(hbk.block B (by omega)).trans i1;have hc2:W.heap[B + 1]? = _:=(hbk.block (B + 1) hlt).trans i2;have d0:W.cell? ⟨B,0,none⟩ = some (.int .i64 d):=(Lib.cell_of_heap hc1 0).trans rfl;have f0:W.frozen? ⟨B,0,none⟩ = false:=Lib.frozen_of_heap hc1 0;have d1:W.cell? ⟨B + 1,0,none⟩ = some (.int .i64 x):=(Lib.cell_of_heap hc2 0).trans rfl;have f1:W.frozen? ⟨B + 1,0,none⟩ = false:=Lib.frozen_of_heap hc2 0;have b3:W.cell? ⟨w.heap.size,3,none⟩ = some (.slice A m c):=by rw [hW];exact (Lib.cell_of_heap (heap_alloc_new w _) 3).trans rfl
 have hne:¬ (w.heap.size = B):=by omega
 have hne2:¬ (w.heap.size = B + 1):=by omega
 have hb1:-4000000 <= d:=by omega
 have hb2:d <= 4000000:=by omega
 have hb3:-4000000 <= x:=by omega
 have hb4:x <= 4000000:=by omega
 have HR:Hid (DepI B (d + 1,max x (d + 1),n + 1) ((W.setCell ⟨B,0,none⟩ (.int .i64 (d + 1))).setCell ⟨B + 1,0,none⟩ (.int .i64 (max x (d + 1)))) /\ FrL B w ((W.setCell ⟨B,0,none⟩ (.int .i64 (d + 1))).setCell ⟨B + 1,0,none⟩ (.int .i64 (max x (d + 1))))):=hide ⟨⟨by
   rw [Below.heap_setCell _ ⟨B + 1,0,none⟩ _ B (by simp),heap_put (j:=0) _ hc1];rfl,by
   have h2:(W.setCell ⟨B,0,none⟩ (.int .i64 (d + 1))).heap[B + 1]? = _:=(Below.heap_setCell _ ⟨B,0,none⟩ _ (B + 1) (by simp)).trans hc2;rw [heap_put (j:=0) _ h2];rfl,by simp only;omega,by simp only;omega,by simp only;omega,by simp only;omega⟩,
  ⟨(((hbk.mono hB).setCell (p:=⟨B,0,none⟩) (Nat.le_refl _) _).setCell (p:=⟨B + 1,0,none⟩) (Nat.le_succ _) _),fun g cur T fz hg hT=>by
   have g1:g ≠ B:=fun e=>by
    subst e;rw [i1] at hg;injection hg with hg;injection hg with _ hg
    subst hg;rcases hT with hT | hT <;> exact absurd hT (by decide)
   have g2:g ≠ B + 1:=fun e=>by
    subst e;rw [i2] at hg;injection hg with hg;injection hg with _ hg
    subst hg;rcases hT with hT | hT <;> exact absurd hT (by decide)
   rw [Below.heap_setCell _ ⟨B + 1,0,none⟩ _ g g2,Below.heap_setCell _ ⟨B,0,none⟩ _ g g1];exact hbk.block g (lt_of_block hg)⟩⟩
 clear i1 i2 i3 i4 i5 i6 hB ha hk hm hbk hlt hc1 hc2;subst hW;show Calls Tryz.prog _ #[ndV h _ _,.pointer (some ⟨B,0,none⟩),.pointer (some ⟨B + 1,0,none⟩)] w _
 unfold ndV;go_enter Tryz.func21,Tryz.ntmps21;go_wp2_with fail;go_ret;exact ⟨rfl,HR.out⟩
theorem depth_end (B:Nat) (M:Nat) (hM:M <= 4000000):EndOK B 22 #[.pointer (some ⟨B,0,none⟩)] (DepI B) (fun (s:DepS) _=>((s.1 - 1,s.2.1,s.2.2 + 1):DepS)) (fun s=>s.2.2) M:=by
 intro s w h K av kv hi hB ha hk hm;obtain ⟨d,x,n⟩:=s;obtain ⟨i1,i2,i3,i4,i5,i6⟩:=hi;simp only at i1 i2 i3 i4 i5 i6 hm;obtain ⟨A1,c1,rfl⟩:=ha.1.form;obtain ⟨A2,c2,rfl⟩:=hk.form;have hbk:=below_one w (Obj.cells #[.string (str h.name),.slice A1 h.attrs.length c1,.string (str h.text),.slice A2 K.len c2] 36);have hlt:B + 1 < w.heap.size:=lt_of_block i2;obtain ⟨W,hW⟩:∃ W,W = w.alloc (Obj.cells #[.string (str h.name),.slice A1 h.attrs.length c1,.string (str h.text),.slice A2 K.len c2] 36):=⟨_,rfl⟩
 rw [<- hW] at hbk;have hc1:W.heap[B]? = _:=(hbk.block B (by omega)).trans i1;have hc2:W.heap[B + 1]? = _:=(hbk.block (B + 1) hlt).trans i2;have d0:W.cell? ⟨B,0,none⟩ = some (.int .i64 d):=(Lib.cell_of_heap hc1 0).trans rfl;have f0:W.frozen? ⟨B,0,none⟩ = false:=Lib.frozen_of_heap hc1 0;have hb1:-4000000 <= d:=by omega
 have hb2:d <= 4000000:=by omega
 have HR:Hid (DepI B (d - 1,x,n + 1) (W.setCell ⟨B,0,none⟩ (.int .i64 (d - 1))) /\ FrL B w (W.setCell ⟨B,0,none⟩ (.int .i64 (d - 1)))):=hide ⟨⟨by
   rw [heap_put (j:=0) _ hc1];rfl,by
   exact (Below.heap_setCell _ ⟨B,0,none⟩ _ (B + 1) (by simp)).trans hc2,by simp only;omega,by simp only;omega,by simp only;omega,by simp only;omega⟩,
  frL_box (b:=B) ((hbk.mono hB).setCell (p:=⟨B,0,none⟩) (Nat.le_refl _) _) (fun k hk hkb=>(Below.heap_setCell _ ⟨B,0,none⟩ _ k hkb).trans (hbk.block k hk)) i1 (by decide)⟩
 clear i1 i2 i3 i4 i5 i6 hB ha hk hm hbk hlt hc1 hc2;subst hW;show Calls Tryz.prog _ #[ndV h _ _,.pointer (some ⟨B,0,none⟩)] w _
 unfold ndV;go_enter Tryz.func22,Tryz.ntmps22;go_wp2_with fail;go_end0;exact ⟨rfl,HR.out⟩
theorem depth14_any (v:Value) (T:Tr) (w:World) (hT:NodesIn w v T) (hc:T.count <= 1000000) :
  Calls Tryz.prog 10 #[v] w fun e w'=>e = .returned (.int .i64 (T.depth:Int)) /\ Below w.heap.size w w':=by
 obtain ⟨W,hW⟩:∃ W,W = (w.alloc (Obj.cells #[.int .i64 0] 3)).alloc (Obj.cells #[.int .i64 0] 3):=⟨_,rfl⟩
 have hb1:=below_one w (Obj.cells #[.int .i64 0] 3);have hz:(w.alloc (Obj.cells #[.int .i64 0] 3)).heap.size = w.heap.size + 1:=by rw [World.size_alloc]
 have hb2:=below_one (w.alloc (Obj.cells #[.int .i64 0] 3)) (Obj.cells #[.int .i64 0] 3);have hbk:Below w.heap.size w W:=by rw [hW];exact hb1.trans (hb2.mono hb1.size)
 have hI:DepI w.heap.size (0,0,0) W:=by
  refine ⟨?_,?_,by decide,by decide,by decide,by decide⟩
  ·rw [hW,hb2.block w.heap.size (by rw [hz];exact Nat.lt_succ_self _)];exact heap_alloc_new w _
  ·have:=heap_alloc_new (w.alloc (Obj.cells #[.int .i64 0] 3)) (Obj.cells #[.int .i64 0] 3);rw [hz] at this;rw [hW];exact this
 have hw:=walk_gen w.heap.size 21 22 #[.pointer (some ⟨w.heap.size,0,none⟩),.pointer (some ⟨w.heap.size + 1,0,none⟩)] #[.pointer (some ⟨w.heap.size,0,none⟩)] (enters_of Tryz.func21 (by kernel_rfl) rfl) (enters_of Tryz.func22 (by kernel_rfl) rfl)
  (DepI w.heap.size) (fun (s:DepS) _ _=>((s.1 + 1,max s.2.1 (s.1 + 1),s.2.2 + 1):DepS)) (fun (s:DepS) _=>((s.1 - 1,s.2.1,s.2.2 + 1):DepS)) (fun _=>true) (fun s=>s.2.2) 2000000 (fun _ _=>True) (fun s _ _=>Nat.le_succ _) (fun s _=>Nat.le_succ _) (dep_inv _ _) (depth_beg _ _ (by decide)) (depth_end _ _ (by decide)) v T (0,0,0) W (NodesC.mono hT (same_below hbk) (fun _ x=>x)) (Tr.ev_true T) hc (by rw [vis_depth T (0,0,0) (Int.le_refl _)];simp only;omega) hI hbk.size
 rw [vis_depth T (0,0,0) (Int.le_refl _)] at hw;have hd:(max 0 (0 + (T.depth:Int))) = (T.depth:Int):=by omega
 simp only [hd] at hw;rw [hW] at hw;have HB:=hide hw;have HK:=hide hbk;rw [hW] at HK;obtain ⟨A,c,rfl⟩:=NodesC.form hT;have hmf:∀ (fn:Fn) (first cap:Array Value) (w:World),(Instr.makeFunc fn first cap).run Tryz.prog w = .ok (.func fn first cap) w:=fun _ _ _ _=>rfl
 clear hT hbk hb1 hb2 hz hI hw hd hW;go_enter Tryz.func10,Tryz.ntmps10;go_wp2_with fail;refine HB.out.mono ?_;rintro e w1 ⟨rfl,h1,h2⟩;have d0:w1.cell? ⟨w.heap.size + 1,0,none⟩ = some (.int .i64 (T.depth:Int)):=(Lib.cell_of_heap h1.2.1 0).trans rfl;have HR:=hide (HK.out.trans h2);clear h1 h2;go_wp2_with fail;go_ret;exact ⟨rfl,HR.out⟩
def CntI (b:Nat) (n:Nat) (w:World):Prop:=w.heap[b]? = some (Obj.cells #[.int .i64 (n:Int)] 3 (0,0))
theorem nodes_free (b:Nat) (r s q:Bool) (A:Option Addr) (F:List FileL) (c:Nat):NodesOK b r s q false A F c :=
 nodesW_any b r s q false A F c (fun _=>link_any b r s q A F c (nodesW_any b r s q true A F c (fun e=>by cases e)))
theorem washClean_any (r s q:Bool) (A:Option Addr) (F:List FileL) (c:Nat) (v:Value) (T:Tr) (w:World) (hF:FilesIn w (.slice A F.length c) F) (hl:F.length <= 40) (hE:EnvW w) (hT:NodesIn w v T) (hok:T.all okW = true) (hc:T.count <= 100000) :
  Calls Tryz.prog 8 #[.agg #[.bool r,.bool s,.bool q],.slice A F.length c,v] w fun e w'=>∃ v',e = .returned v' /\ NodesIn w' v' (washT voidW r s F T) /\ Below w.heap.size w w':=by
 obtain ⟨TA,TC,hv⟩:=NodesC.form hT;subst hv;obtain ⟨W,hW⟩:∃ W,W = (w.alloc (.cells #[.bool r,.bool s,.bool q] 23)).alloc (.cells #[.bool r,.bool s,.bool q,.slice A F.length c,.bool false] 51):=⟨_,rfl⟩
 have hb:Below w.heap.size w W:=by rw [hW];exact wash_two (below_one w _) (below_one _ _)
 have hwb:WshB (w.heap.size + 1) r s q false A F.length c W:=by
  unfold WshB;rw [hW,<- World.size_alloc w (.cells #[.bool r,.bool s,.bool q] 23)];exact heap_alloc_new _ _
 have HN:=hide (nodes_free (w.heap.size + 1) r s q A F c W _ T ⟨hwb,hF.kept hb,hl,hE.kept hb⟩ (NodesIn.kept hT hb) hok hc);have HW:=hide hW;have HB:=hide hb;clear hF hl hE hT hok hc hwb hb hW;go_enter Tryz.func8,Tryz.ntmps8;go_wp2_with fail;rw [<- HW.out];refine HN.out.mono ?_;rintro e w1 ⟨v',D,rfl,hD,hK,hb1⟩;have HR:Hid (NodesIn w1 v' (washT voidW r s F T) /\ Below w.heap.size w w1):=hide ⟨NodesC.mono hK (fun _ _=>rfl) (fun x hx=>(hD x hx).2.1),wash_two HB.out hb1⟩;clear hD hK hb1;go_wp2_with fail;go_ret;exact ⟨_,rfl,HR.out⟩
def blkBg (r:Bool) (n:Nat) (h:NdH) (_:Tr):Nat:=n + (if elemN h.name = 0 then 0 else if blkB r h.name h.attrs = true /\ pixB h.attrs = false then 1 else 0)
def blkDv (h:NdH):Bool:=decide (elemN h.name ≠ 0)
theorem vis_blk (r:Bool) (T:Tr) (n:Nat):vis (blkBg r) (fun s _=>s) blkDv T n = n + blkT r T:=by
 induction T generalizing n with
 | nil=>rfl
 | cons h K R ihk ihr =>
  simp only [vis,blkT,blkDv]
  by_cases h0:elemN h.name = 0
  ·rw [if_pos h0];simp only [h0];rw [ihr];simp [blkBg,h0]
  ·rw [if_neg h0];simp only [ne_eq,h0,not_false_eq_true,decide_true,if_true];rw [ihk,ihr];simp only [blkBg,if_neg h0];omega
theorem blkT_le (r:Bool) (T:Tr):blkT r T <= T.count:=by
 induction T with
 | nil=>exact Nat.le_refl _
 | cons h K R ihk ihr =>
  unfold blkT Tr.count;split
  ·omega
  ·split <;> omega
def BlkI (B:Nat) (W0:World) (n:Nat) (w:World):Prop:=CntI B n w /\ Below B W0 w /\ B <= w.heap.size
theorem blk_inv (B:Nat) (W0:World):InvOK B (BlkI B W0):=fun n w w' row hi hg hr=>⟨box_inv hi.1 (by decide) hg hr,hi.2.1.grown hg hi.2.2 (fun k hk=>(hr k hk).1),Nat.le_trans hi.2.2 hg.size⟩
theorem blk_beg (P B : Nat) (r s q : Bool) (W0 : World) (hP : W0.heap[P]? = some (.cells #[.bool r, .bool s, .bool q] 23 (0, 0))) (hPB : W0.heap.size = B) (hE : EnvU W0) :
    BegOK B 26 #[.pointer (some ⟨P, 0, none⟩), .pointer (some ⟨B, 0, none⟩)] (BlkI B W0) (blkBg r) blkDv id 1000000 (fun h _ => okW h = true) := by
  intro n w h K av A m c hi hB hok ha hk hm
  obtain ⟨hcnt, hbel, hsz⟩ := hi
  obtain ⟨A1, c1, rfl⟩ := ha.1.form
  have hfew := (okW_few hok).1
  have hbw : Below W0.heap.size W0 w := by rw [hPB]; exact hbel
  obtain ⟨nm, hnm⟩ : ∃ nm, nm = str h.name := ⟨_, rfl⟩
  obtain ⟨tx, htx⟩ : ∃ tx, tx = str h.text := ⟨_, rfl⟩
  show Calls Tryz.prog _ #[ndV h _ _, .pointer (some ⟨P, 0, none⟩), .pointer (some ⟨B, 0, none⟩)] w _
  unfold ndV
  rw [← hnm, ← htx]
  obtain ⟨W, hW⟩ : ∃ W, W = w.alloc (.cells #[.string nm, .slice A1 h.attrs.length c1, .string tx, .slice A m c] 36) := ⟨_, rfl⟩
  have hbk : Below w.heap.size w W := by rw [hW]; exact below_one w _
  have hkk : W.heap[w.heap.size]? = some (.cells #[.string nm, .slice A1 h.attrs.length c1, .string tx, .slice A m c] 36 (0, 0)) := by rw [hW]; exact heap_alloc_new w _
  have hnn : nm.data.toList = h.name := by rw [hnm, str_toList]
  have HC : Hid (∀ w', Below W.heap.size W w' → w'.cell? ⟨w.heap.size, 0, none⟩ = some (.string nm) ∧ w'.cell? ⟨w.heap.size, 1, none⟩ = some (.slice A1 h.attrs.length c1) ∧ w'.cell? ⟨w.heap.size, 2, none⟩ = some (.string tx) ∧ w'.cell? ⟨w.heap.size, 3, none⟩ = some (.slice A m c) ∧
      w'.cell? ⟨P, 0, none⟩ = some (.bool r) ∧ w'.cell? ⟨P, 1, none⟩ = some (.bool s) ∧ w'.cell? ⟨P, 2, none⟩ = some (.bool q) ∧ w'.cell? ⟨B, 0, none⟩ = some (.int .i64 (n : Int)) ∧ w'.frozen? ⟨B, 0, none⟩ = false ∧
      Calls Tryz.prog 27 #[.agg #[.bool r, .bool s, .bool q], .agg #[.string nm, .slice A1 h.attrs.length c1, .string tx, .slice A m c]] w' (fun e w'' => e = .returned (.bool (blkB r h.name h.attrs)) ∧ Below w'.heap.size w' w'') ∧
      Calls Tryz.prog 28 #[.agg #[.string nm, .slice A1 h.attrs.length c1, .string tx, .slice A m c]] w' (fun e w'' => e = .returned (.bool (pixB h.attrs)) ∧ Below w'.heap.size w' w'') ∧
      (CntI B n w' ∧ FrL B w w' ∧ Below B W0 w' ∧ B ≤ w'.heap.size)) := hide (fun w' hb' => by
    have hb2 := wash_two hbk hb'
    have k1 := (hb'.block _ (lt_of_block hkk)).trans hkk
    have hPlt := lt_of_block hP
    have k2 := (hb2.block P (Nat.lt_of_lt_of_le hPlt (by omega))).trans ((hbel.block P (by omega)).trans hP)
    have k3 : w'.heap[B]? = _ := (hb2.block B (lt_of_block hcnt)).trans hcnt
    have hat : AttrsIn w' (.slice A1 h.attrs.length c1) h.attrs := ha.1.kept hb2
    have hib := isBlocked_any r s q nm tx _ (.slice A m c) h.attrs w' hat hfew ⟨_, _, _, rfl⟩ ((hE.kept hbw).kept hb2)
    rw [hnn] at hib
    exact ⟨by rw [Lib.cell_of_heap k1]; rfl, by rw [Lib.cell_of_heap k1]; rfl, by rw [Lib.cell_of_heap k1]; rfl, by rw [Lib.cell_of_heap k1]; rfl, by rw [Lib.cell_of_heap k2]; rfl, by rw [Lib.cell_of_heap k2]; rfl, by rw [Lib.cell_of_heap k2]; rfl, (Lib.cell_of_heap k3 0).trans rfl, Lib.frozen_of_heap k3 0, hib,
      isPixel_any nm tx _ (.slice A m c) h.attrs w' hat hfew.1 ⟨_, _, _, rfl⟩, k3, FrL.kept hb2 hB, hbel.trans (hb2.mono hB), Nat.le_trans hsz hb2.size⟩)
  have HEN : Hid (∀ w', Calls Tryz.prog 12 #[.string nm] w' fun e w'' => e = .returned (.int .i64 ((elemN h.name : Nat) : Int)) ∧ w' = w'') := hide fun w' => by
    have := element_any nm w'
    rw [hnn] at this; exact this
  have HW := hide hW
  have HRF := hide (Below.refl W.heap.size W)
  have hnl : n ≤ 1000000 := by simp only [id] at hm; unfold blkBg at hm; omega
  have HUP : Hid (∀ w', CntI B n w' → FrL B w w' → Below B W0 w' → B ≤ w'.heap.size → BlkI B W0 (n + 1) (w'.setCell ⟨B, 0, none⟩ (.int .i64 ((n : Int) + 1))) ∧ FrL B w (w'.setCell ⟨B, 0, none⟩ (.int .i64 ((n : Int) + 1)))) := hide (fun w' h1 h2 h3 h4 => by
    refine ⟨⟨?_, h3.setCell (p := ⟨B, 0, none⟩) (Nat.le_refl _) _, by rw [World.size_setCell]; exact h4⟩, h2.1.setCell (p := ⟨B, 0, none⟩) (Nat.le_refl _) _, fun g cur T fz hg hT => ?_⟩
    · unfold CntI
      rw [heap_put (j := 0) _ h1]
      rfl
    · have hne : g ≠ B := fun e => by
        subst e
        rw [hcnt] at hg
        injection hg with hg
        injection hg with _ hg
        rcases hT with hT | hT <;> rw [hT] at hg <;> exact absurd hg (by decide)
      exact (Below.heap_setCell w' ⟨B, 0, none⟩ _ g hne).trans (h2.2 g cur T fz hg hT))
  obtain ⟨c0, c1', c2, c3, c4, c5, c6, c7, c8, _⟩ := HC.out W HRF.out
  have HNN := hide hnm
  have HLT : Hid (B < w.heap.size) := hide (lt_of_block hcnt)
  clear hP hPB hE hcnt hbel hsz ha hk hm hfew hbw hbk hkk hW hok hnm htx c8 c7
  by_cases h0 : elemN h.name = 0
  · have hd : blkDv h = false := by unfold blkDv; simp [h0]
    have hg : blkBg r n h K = n := by unfold blkBg; rw [if_pos h0]; rfl
    rw [hd, hg]
    rw [h0, show (((0 : Nat) : Int)) = 0 from rfl] at HEN
    clear h0 hd hg
    go_enter Tryz.func26, Tryz.ntmps26
    go_wp2_with fail
    rw [← HW.out]
    refine (HEN.out _).mono ?_
    rintro e w1 ⟨rfl, rfl⟩
    go_wp2_with fail
    go_ret
    obtain ⟨_, _, _, _, _, _, _, _, _, _, _, d1, d2, d3, d4⟩ := HC.out W HRF.out
    exact ⟨rfl, ⟨d1, d3, d4⟩, d2⟩
  have hd : blkDv h = true := by unfold blkDv; simp [h0]
  have z1 : (((elemN h.name : Nat) : Int) == 0) = false := beq_eq_false_iff_ne.2 (by omega)
  have z2 : decide (((elemN h.name : Nat) : Int) = 0) = false := decide_eq_false (by omega)
  rw [hd]
  cases hbk : blkB r h.name h.attrs with
  | false =>
    have hg : blkBg r n h K = n := by unfold blkBg; rw [if_neg h0, if_neg (by rw [hbk]; simp)]; rfl
    rw [hg]
    obtain ⟨N0, hN0⟩ : ∃ N0 : Int, N0 = ((elemN h.name : Nat) : Int) := ⟨_, rfl⟩
    rw [← hN0] at HEN z1 z2
    clear h0 hd hg hN0
    go_enter Tryz.func26, Tryz.ntmps26
    go_wp2_with fail
    rw [← HW.out]
    refine (HEN.out _).mono ?_
    rintro e w1 ⟨rfl, rfl⟩
    go_wp2_with fail
    have HIB := (HC.out W HRF.out).2.2.2.2.2.2.2.2.2.1
    rw [hbk] at HIB
    refine HIB.mono ?_
    rintro e w2 ⟨rfl, hb2⟩
    obtain ⟨c0', c1'', c2', c3', _, _, _, _, _, _, _, d1, d2, d3, d4⟩ := HC.out w2 hb2
    have HD := hide (And.intro d1 (And.intro d2 (And.intro d3 d4)))
    clear hb2 d1 d2 d3 d4 HIB hbk c0 c1' c2 c3 c4 c5 c6
    go_wp2_with fail
    go_ret
    exact ⟨rfl, ⟨HD.out.1, HD.out.2.2.1, HD.out.2.2.2⟩, HD.out.2.1⟩
  | true =>
   cases hpx : pixB h.attrs with
   | true =>
    have hg : blkBg r n h K = n := by unfold blkBg; rw [if_neg h0, if_neg (by rw [hpx]; simp)]; rfl
    rw [hg]
    obtain ⟨N0, hN0⟩ : ∃ N0 : Int, N0 = ((elemN h.name : Nat) : Int) := ⟨_, rfl⟩
    rw [← hN0] at HEN z1 z2
    have hbw := h0
    clear hbw h0 hd hg hN0
    go_enter Tryz.func26, Tryz.ntmps26
    go_wp2_with fail
    rw [← HW.out]
    refine (HEN.out _).mono ?_
    rintro e w1 ⟨rfl, rfl⟩
    go_wp2_with fail
    have HIB := (HC.out W HRF.out).2.2.2.2.2.2.2.2.2.1
    rw [hbk] at HIB
    refine HIB.mono ?_
    rintro e w2 ⟨rfl, hb2⟩
    obtain ⟨c0', c1'', c2', c3', _, _, _, _, _, _, hpc, _⟩ := HC.out w2 hb2
    rw [hpx] at hpc
    have HPC := hide hpc
    have HB2 := hide hb2
    clear hb2 hpc HIB hbk hpx c0 c1' c2 c3 c4 c5 c6
    go_wp2_with fail
    refine HPC.out.mono ?_
    rintro e w3 ⟨rfl, hb3⟩
    obtain ⟨_, _, _, c3'', _, _, _, c7, c8, _, _, d1, d2, d3, d4⟩ := HC.out w3 (wash_two HB2.out hb3)
    have HD := hide (And.intro d1 (And.intro d2 (And.intro d3 d4)))
    clear hb3 d1 d2 d3 d4 c0' c1'' c2' c3'
    clear c7 c8
    go_wp2_with fail
    go_ret
    exact ⟨rfl, ⟨HD.out.1, HD.out.2.2.1, HD.out.2.2.2⟩, HD.out.2.1⟩
   | false =>
    have hg : blkBg r n h K = n + 1 := by unfold blkBg; rw [if_neg h0, if_pos ⟨hbk, hpx⟩]
    rw [hg]
    obtain ⟨N0, hN0⟩ : ∃ N0 : Int, N0 = ((elemN h.name : Nat) : Int) := ⟨_, rfl⟩
    rw [← hN0] at HEN z1 z2
    have hbw := h0
    clear hbw h0 hd hg hN0
    go_enter Tryz.func26, Tryz.ntmps26
    go_wp2_with fail
    rw [← HW.out]
    refine (HEN.out _).mono ?_
    rintro e w1 ⟨rfl, rfl⟩
    go_wp2_with fail
    have HIB := (HC.out W HRF.out).2.2.2.2.2.2.2.2.2.1
    rw [hbk] at HIB
    refine HIB.mono ?_
    rintro e w2 ⟨rfl, hb2⟩
    obtain ⟨c0', c1'', c2', c3', _, _, _, _, _, _, hpc, _⟩ := HC.out w2 hb2
    rw [hpx] at hpc
    have HPC := hide hpc
    have HB2 := hide hb2
    clear hb2 hpc HIB hbk hpx c0 c1' c2 c3 c4 c5 c6
    go_wp2_with fail
    refine HPC.out.mono ?_
    rintro e w3 ⟨rfl, hb3⟩
    obtain ⟨_, _, _, c3'', _, _, _, c7, c8, _, _, d1, d2, d3, d4⟩ := HC.out w3 (wash_two HB2.out hb3)
    have HD := hide (And.intro d1 (And.intro d2 (And.intro d3 d4)))
    clear hb3 d1 d2 d3 d4 c0' c1'' c2' c3'
    have hne : ¬ (w.heap.size = B) := by have := lt_of_block HD.out.1; have h2 := HLT.out; omega
    have hne2 : ¬ (B = w.heap.size) := fun e => hne e.symm
    go_wp2_with fail
    go_ret
    have hu := HUP.out w3 HD.out.1 HD.out.2.1 HD.out.2.2.1 HD.out.2.2.2
    exact ⟨rfl, hu.1, hu.2⟩
theorem washBlocked_any (r s q:Bool) (v:Value) (T:Tr) (w:World) (hE:EnvU w) (hT:NodesIn w v T) (hok:T.all okW = true) (hc:T.count <= 100000) :
  Calls Tryz.prog 13 #[.agg #[.bool r,.bool s,.bool q],v] w fun e w'=>e = .returned (.int .i64 (blkT r T:Int)) /\ Below w.heap.size w w':=by
 obtain ⟨W0,hW0⟩:∃ W0,W0 = w.alloc (.cells #[.bool r,.bool s,.bool q] 23):=⟨_,rfl⟩
 obtain ⟨W,hW⟩:∃ W,W = W0.alloc (.cells #[.int .i64 0] 3):=⟨_,rfl⟩
 have h1:Below w.heap.size w W0:=by rw [hW0];exact below_one w _
 have h2:Below W0.heap.size W0 W:=by rw [hW];exact below_one W0 _
 have z0:W0.heap.size = w.heap.size + 1:=by rw [hW0,World.size_alloc]
 have hP:W0.heap[w.heap.size]? = some (.cells #[.bool r,.bool s,.bool q] 23 (0,0)):=by rw [hW0];exact heap_alloc_new w _
 have hcn:CntI W0.heap.size 0 W:=by unfold CntI;rw [hW];exact heap_alloc_new W0 _
 have hev:T.ev (fun h _=>okW h = true):=by
  clear hT hc
  induction T with
  | nil=>trivial
  | cons h K R ihk ihr =>
   simp only [Tr.all,Bool.and_eq_true] at hok;exact ⟨hok.1,ihk hok.2.1,ihr hok.2.2⟩
 have HB:=hide (begins_gen W0.heap.size 26 #[.pointer (some ⟨w.heap.size,0,none⟩),.pointer (some ⟨W0.heap.size,0,none⟩)] (enters_of Tryz.func26 (by kernel_rfl) rfl) (BlkI W0.heap.size W0) (blkBg r) blkDv id 1000000 (fun h _=>okW h = true) (fun n h K=>Nat.le_add_right _ _) (blk_inv _ _) (blk_beg w.heap.size W0.heap.size r s q W0 hP rfl (hE.kept h1)) v T 0 W
  (NodesC.mono hT (fun x hx=>(wash_two h1 h2).block x hx) (fun x hx=>by omega)) hev (by omega) (by rw [vis_blk];simp only [id];have:=blkT_le r T;omega) ⟨hcn,h2,h2.size⟩ h2.size)
 rw [vis_blk,Nat.zero_add,z0] at HB;obtain ⟨TA,TC,hv⟩:=NodesC.form hT;subst hv;have HW:=hide (hW.trans (by rw [hW0]));have HK:=hide (And.intro h1 z0);have hmf:∀ (fn:Fn) (first cap:Array Value) (w:World),(Instr.makeFunc fn first cap).run Tryz.prog w = .ok (.func fn first cap) w:=fun _ _ _ _=>rfl
 clear hE hT hok hc hW hW0 h1 h2 z0 hP hcn hev;go_enter Tryz.func13,Tryz.ntmps13;go_wp2_with fail;rw [<- HW.out];refine HB.out.mono ?_;rintro e w1 ⟨rfl,⟨hc1,hb1,hs1⟩,hb2⟩;have d0:w1.cell? ⟨w.heap.size + 1,0,none⟩ = some (.int .i64 (blkT r T:Int)):=(Lib.cell_of_heap hc1 0).trans rfl;have HR:Hid (Below w.heap.size w w1):=hide (HK.out.1.trans (hb1.mono (by have:=HK.out.2;omega)));clear hc1 hb1 hs1 hb2;go_wp2_with fail;go_ret;exact ⟨rfl,HR.out⟩
theorem endTextT_any (C : Nat → Prop) (B b g cap : Nat) (p : PartV) (rest : List PartV) (n : Nat) (W0 w : World) (h : BS C B b (.slice (some ⟨g, 0, none⟩) (rest.length + 1) cap) (p :: rest) n W0 w) (hl : rest.length ≤ 1048576) (hk : p.kids.length ≤ 1048576) (ht : p.tail.length ≤ 70368744177664) :
    Calls Tryz.prog 38 #[.pointer (some ⟨g, rest.length * 5, none⟩)] w fun e w' => e = .returned (.tuple #[]) ∧
      ∃ p', BS C B b (.slice (some ⟨g, 0, none⟩) (rest.length + 1) cap) (p' :: rest) n W0 w' ∧ p'.toL = endTextL p.toL := by
  obtain ⟨e0, e1, e2, e3, e4, ef⟩ := h.cells
  obtain ⟨tl1, tl2⟩ := h.tails p (List.mem_cons_self ..)
  by_cases hx : p.tail = []
  · have ht2 := tl2 hx
    rw [ht2] at e4
    have HR : Hid (BS C B b (.slice (some ⟨g, 0, none⟩) (rest.length + 1) cap) (p :: rest) n W0 w ∧ p.toL = endTextL p.toL) := hide ⟨h, by unfold endTextL; rw [if_pos (show p.toL.tail = [] from hx)]⟩
    clear h e0 e1 e2 e3 ef tl1 tl2 hx ht2 hk ht
    go_enter Tryz.func38, Tryz.ntmps38
    go_wp2_with fail
    go_end0
    exact ⟨rfl, p, HR.out⟩
  · obtain ⟨gt, ct, htv⟩ : ∃ gt ct, p.tv = .slice (some ⟨gt, 0, none⟩) p.tail.length ct := by
      rcases tl1.2 with ⟨_, h0⟩ | ⟨g', cap', cur, hv, _⟩
      · exact absurd (List.eq_nil_of_length_eq_zero h0) hx
      · exact ⟨g', cap', hv⟩
    rw [htv] at e4
    obtain ⟨N, hN⟩ : ∃ N, p.tail.length = N := ⟨_, rfl⟩
    have hN0 : 0 < N := by rw [← hN]; exact List.length_pos_iff.2 hx
    have g1 : decide ((0 : Int) < (N : Int)) = true := decide_eq_true (by omega)
    rw [hN] at e4
    obtain ⟨KA, KC, hkv⟩ : ∃ A c, p.kv = .slice A p.kids.length c := by
      rcases (h.kids p (List.mem_cons_self ..)).row.2 with ⟨hv, h0⟩ | ⟨g', cap', cur, hv, _⟩
      · exact ⟨none, 0, by rw [hv, h0]⟩
      · exact ⟨_, _, hv⟩
    rw [hkv] at e3
    obtain ⟨X, hX⟩ : ∃ X, str p.tail = X := ⟨_, rfl⟩
    have HX := hide hX
    have HXN := hide hx
    have HH := hide h
    have HK := hide hk
    have HTV := hide htv
    have HKV := hide hkv
    have HNN := hide hN
    have hcv : ∀ w', w'.ownsRow B 5 1 p.tv p.tail.length (cellsOf p.tail) → (convert 58 9 (.slice (some ⟨gt, 0, none⟩) N ct)).run Tryz.prog w' = .ok (.string X) w' := fun w' hw' => by
      have := Buf.convert (B := 0) (W0 := w') (w := w') (v := p.tv) (l := p.tail) ⟨ownsRow_down hw' (Nat.zero_le _), Below.refl _ _, Nat.zero_le _⟩
      rw [htv, hN, hX] at this
      exact this
    have HCV := hide hcv
    have cv0 := hcv w tl1
    clear h hx hk htv hkv hX tl1 tl2 ht hN hcv
    have HOWN : Hid (∀ W, Below w.heap.size w W → W.ownsRow B 36 4 (.slice KA p.kids.length KC) p.kids.length (nodeVals p.kids)) := hide fun W hW => by
      have := ((HH.out.kept hW).kids p (List.mem_cons_self ..)).row
      rw [HKV.out] at this; exact this
    have e3a : ∀ ob, (w.alloc ob).cell? ⟨g, rest.length * 5 + 3, none⟩ = some (.slice KA p.kids.length KC) := fun ob => ((below_one w ob).cell (World.block_lt_of_cell? _ _ e3)).trans e3
    have e4a : ∀ ob, (w.alloc ob).cell? ⟨g, rest.length * 5 + 4, none⟩ = some (.slice (some ⟨gt, 0, none⟩) N ct) := fun ob => ((below_one w ob).cell (World.block_lt_of_cell? _ _ e4)).trans e4
    have cv0d := HCV.out w.drew (((HH.out.kept (Below.refl _ _).drew).tails p (List.mem_cons_self ..)).1)
    have cv1 : ∀ ob, (convert 58 9 (.slice (some ⟨gt, 0, none⟩) N ct)).run Tryz.prog (w.alloc ob) = .ok (.string X) (w.alloc ob) := fun ob => HCV.out _ (((HH.out.kept (below_one w ob)).tails p (List.mem_cons_self ..)).1)
    have cv1d : ∀ ob, (convert 58 9 (.slice (some ⟨gt, 0, none⟩) N ct)).run Tryz.prog (w.alloc ob).drew = .ok (.string X) (w.alloc ob).drew := fun ob => HCV.out _ (((HH.out.kept ((below_one w ob).drew)).tails p (List.mem_cons_self ..)).1)
    have tn5 : ((p.kids.length : Nat) : Int) < (p.kids.length : Int) + 1 := by omega
    go_enter Tryz.func38, Tryz.ntmps38
    go_wp2_with fail
    all_goals first | exact absurd hN0 ‹_› | skip
    go_region_law (first
      | (refine step_node0 rfl _ _ rfl B (.slice KA p.kids.length KC) p.kids rfl (HOWN.out _ ?_) ?_ ⟨w.heap.size, 0, none⟩ rfl (node_row _ _ _ _ _).1 (node_row _ _ _ _ _).2.1 (node_row _ _ _ _ _).2.2.1 (node_row _ _ _ _ _).2.2.2 (by have := HK.out; omega) ?_
         · exact ((Below.refl _ _).alloc (Nat.le_refl _) _).drew
         · exact Nat.le_trans HH.out.size (((Below.refl w.heap.size w).alloc (Nat.le_refl _) _).drew).size
         intro g' cap' w2 ho2 hg2 hor2 hc2 hm2
         have HB1 := hide (HH.out.kept (((Below.refl w.heap.size w).alloc (Nat.le_refl _) (.cells #[.string ⟨#[]⟩, .slice none 0 0, .string ⟨#[]⟩, .slice none 0 0] 36)).drew))
         have hg3 := hg2
         rw [← HKV.out] at hg3 hor2
         obtain ⟨n1, n2, ⟨n3, n4, n5, n6⟩, n7, n8⟩ := app_facts HB1.out ho2 hg3 hor2
         have n9 : w2.cell? ⟨g, rest.length * 5 + 3, none⟩ = some (.slice KA p.kids.length KC) := (n8 _).trans (e3a _)
         have n10 : w2.cell? ⟨g, rest.length * 5 + 4, none⟩ = some (.slice (some ⟨gt, 0, none⟩) N ct) := (n8 _).trans (e4a _)
         have n11 : ¬ (g = g') := fun e => n1 e.symm
         have HO2 := hide ho2
         have HG2 := hide hg3
         have HOR := hide hor2
         clear ho2 hg2 hg3 hor2 hc2 hm2 n8))
    all_goals
      first | rw [kid_comm w2 n11] | skip
      have hb2 := HB1.out.kidWritten (q := (textNd p.tail, (.slice none 0 0, .slice none 0 0))) HO2.out HG2.out HOR.out ⟨⟨.inl ⟨rfl, rfl⟩, fun a n c e => (by cases e)⟩, .inl ⟨rfl, rfl⟩⟩
      rw [show (textNd p.tail).1.text = p.tail from rfl, HX.out] at hb2
      have hb3 := hb2.noTail
      have HB3 := hide hb3
      clear hb2 hb3
      go_wp2_with fail
      go_end0
      refine ⟨rfl, _, HB3.out, ?_⟩
      unfold endTextL
      rw [if_neg (show ¬ p.toL.tail = [] from HXN.out)]
      unfold PartV.toL
      simp
theorem inner_at (C:Nat -> Prop) (B b g cap:Nat) (p:PartV) (rest:List PartV) (n:Nat) (W0 w:World) (h:BS C B b (.slice (some ⟨g,0,none⟩) (rest.length + 1) cap) (p :: rest) n W0 w) (hl:rest.length <= 1000000) :
  Calls Tryz.prog 37 #[.pointer (some ⟨b,0,none⟩)] w fun e w'=>e = .returned (.pointer (some ⟨g,rest.length * 5,none⟩)) /\ BS C B b (.slice (some ⟨g,0,none⟩) (rest.length + 1) cap) (p :: rest) n W0 w':=by
 refine (inner14_any C B b _ (p :: rest) n W0 w h (by simp) (by simp only [List.length_cons];omega)).mono ?_;rintro e w' ⟨⟨g2,c2,he,rfl⟩,m,rfl⟩;injection he with he _ _;injection he with he;injection he with he;subst he;exact ⟨rfl,h.kept ⟨rfl,rfl,rfl,Nat.le_refl _,fun _ _=>rfl⟩⟩
theorem inner_at2 (C:Nat -> Prop) (B b g cap:Nat) (p:PartV) (rest:List PartV) (n:Nat) (W0 w:World) (h:BS C B b (.slice (some ⟨g,0,none⟩) (rest.length + 1) cap) (p :: rest) n W0 w) (hl:rest.length <= 1000000) :
  Calls Tryz.prog 37 #[.pointer (some ⟨b,0,none⟩)] w fun e w'=>e = .returned (.pointer (some ⟨g,rest.length * 5,none⟩)) /\ BS C B b (.slice (some ⟨g,0,none⟩) (rest.length + 1) cap) (p :: rest) n W0 w' /\ ∃ m,w' = w.drewN m:=by
 refine (inner14_any C B b _ (p :: rest) n W0 w h (by simp) (by simp only [List.length_cons];omega)).mono ?_;rintro e w' ⟨⟨g2,c2,he,rfl⟩,m,rfl⟩;injection he with he _ _;injection he with he;injection he with he;subst he;exact ⟨rfl,h.kept ⟨rfl,rfl,rfl,Nat.le_refl _,fun _ _=>rfl⟩,m,rfl⟩
def toLs (st:List PartV):List PartL:=st.map PartV.toL
def Left (B b:Nat) (s:BsL) (W0 w:World):Prop:=∃ C r st,BS C B b r st s.2 W0 w /\ toLs st = s.1
theorem charsTail_any (C : Nat → Prop) (B b g cap : Nat) (p : PartV) (rest : List PartV) (n : Nat) (W0 w : World) (h : BS C B b (.slice (some ⟨g, 0, none⟩) (rest.length + 1) cap) (p :: rest) n W0 w) (hl : rest.length ≤ 1000000) (x : ByteArray) (hx : x.data.toList ≠ []) (hz : p.tail.length + x.size ≤ 140737488355328) (ht : p.tail ≠ []) :
    Calls Tryz.prog 32 #[.pointer (some ⟨b, 0, none⟩), .string x] w fun e w' => e = .returned (.tuple #[]) ∧ ∃ p', BS C B b (.slice (some ⟨g, 0, none⟩) (rest.length + 1) cap) (p' :: rest) n W0 w' ∧ p'.toL = { p.toL with tail := p.tail ++ x.data.toList } := by
  obtain ⟨i0, hi, hz0, hz1, hz2⟩ := info_parts info_u8
  obtain ⟨gt, ct, htv⟩ : ∃ gt ct, p.tv = .slice (some ⟨gt, 0, none⟩) p.tail.length ct := by
    rcases (h.tails p (List.mem_cons_self ..)).1.2 with ⟨_, h0⟩ | ⟨g', cap', cur, hv, _⟩
    · exact absurd (List.eq_nil_of_length_eq_zero h0) ht
    · exact ⟨g', cap', hv⟩
  have hlt : 0 < p.tail.length := List.length_pos_iff.2 ht
  have t0 : ((p.tail.length : Int) == 0) = false := beq_eq_false_iff_ne.2 (by omega)
  have HH := hide h
  have HI := hide (inner_at C B b g cap p rest n W0 w h hl)
  have HTV := hide htv
  have HX := hide hx
  have HI1 := hide hi
  have HZ0 := hide hz0
  have HZ1 := hide hz1
  have HZ2 := hide hz2
  clear h htv hx hi hz0 hz1 hz2 ht
  go_enter Tryz.func32, Tryz.ntmps32
  go_wp2_with fail
  refine HI.out.mono ?_
  rintro e w1 ⟨rfl, hb⟩
  obtain ⟨e0, e1, e2, e3, e4, ef⟩ := hb.cells
  rw [HTV.out] at e4
  have HB := hide hb
  clear hb e0 e1 e2 e3
  go_wp2_with (refine Lib.wpList_append_own_string _ rfl _ _ 58 9 rfl B 5 i0 Tryz.underlying58 Tryz.underlying9 HI1.out HZ0.out HZ1.out HZ2.out (.slice (some ⟨gt, 0, none⟩) p.tail.length ct) p.tail.length (cellsOf p.tail) rfl (by have := (HB.out.tails p (List.mem_cons_self ..)).1; rw [HTV.out] at this; exact this) x rfl (by unfold maxLen; omega) (by omega) HB.out.size ?_
               intro v' w2 hown' hgrow _
               obtain ⟨ao, n', c', rfl⟩ : ∃ ao n' c', v' = .slice ao n' c' := by
                 rcases hown'.2 with ⟨hv, _⟩ | ⟨g0, c0, cur, hv, _⟩
                 · exact ⟨_, _, _, hv⟩
                 · exact ⟨_, _, _, hv⟩
               have hgt := hgrow
               rw [← HTV.out] at hgt
               have hlg : g < w1.heap.size := World.block_lt_of_cell? _ _ e4
               have hne : (Value.slice (some ⟨gt, 0, none⟩) p.tail.length ct).ownBlock ≠ some g := by
                 have := ownsRow_other (HB.out.tails p (List.mem_cons_self ..)).1 (r := g) (fun cur => HB.out.rowOut.2.2.2 cur _ (by decide))
                 rw [HTV.out] at this; exact this
               have hgg : w2.heap[g]? = w1.heap[g]? := hgrow.block g hlg (fun e => hne e.symm)
               have d4 : w2.cell? ⟨g, rest.length * 5 + 4, none⟩ = some (.slice (some ⟨gt, 0, none⟩) p.tail.length ct) := (World.cell?_of_block hgg).trans e4
               have f4 : w2.frozen? ⟨g, rest.length * 5 + 4, none⟩ = false := (World.frozen?_of_block hgg).trans (ef _)
               have HO2 : Hid (w2.ownsRow B 5 1 (.slice ao n' c') (p.tail ++ x.data.toList).length (cellsOf (p.tail ++ x.data.toList))) := hide (by
                 rw [List.length_append, toList_length, cellsOf, List.map_append]
                 exact hown')
               have HG2 := hide hgt
               clear hown' hgrow hgt hlg hne hgg)
  go_end0
  have := HB.out.moreTail HO2.out HG2.out (fun e => absurd (List.append_eq_nil_iff.1 e).2 HX.out)
  exact ⟨rfl, _, this, rfl⟩
theorem charsNew_any (C : Nat → Prop) (B b g cap : Nat) (p : PartV) (rest : List PartV) (n : Nat) (W0 w : World) (h : BS C B b (.slice (some ⟨g, 0, none⟩) (rest.length + 1) cap) (p :: rest) n W0 w) (hl : rest.length ≤ 1000000) (x : ByteArray) (hx : x.data.toList ≠ []) (hz : x.size ≤ 140737488355328) (ht : p.tail = []) (hn : n < 5000) :
    Calls Tryz.prog 32 #[.pointer (some ⟨b, 0, none⟩), .string x] w fun e w' => e = .returned (.tuple #[]) ∧ ∃ p', BS C B b (.slice (some ⟨g, 0, none⟩) (rest.length + 1) cap) (p' :: rest) (n + 1) W0 w' ∧ p'.toL = { p.toL with tail := x.data.toList } := by
  obtain ⟨i0, hi, hz0, hz1, hz2⟩ := info_parts info_u8
  obtain ⟨A, N, ct, htv, hN⟩ : ∃ A N ct, p.tv = .slice A N ct ∧ N = 0 := ⟨_, _, _, (h.tails p (List.mem_cons_self ..)).2 ht, rfl⟩
  have t0 : ((N : Int) == 0) = true := by rw [beq_iff_eq]; omega
  have HT0 : Hid (∀ W, Below w.heap.size w W → True) := hide fun _ _ => trivial
  have HTL := hide ht
  have HN0 := hide hN
  have HH := hide h
  have HI := hide (inner_at C B b g cap p rest n W0 w h hl)
  have HTV := hide htv
  have HX := hide hx
  have HN := hide hn
  have HI1 := hide hi
  have HZ0 := hide hz0
  have HZ1 := hide hz1
  have HZ2 := hide hz2
  clear h htv hx hi hz0 hz1 hz2 ht hn hN HT0
  go_enter Tryz.func32, Tryz.ntmps32
  go_wp2_with fail
  refine HI.out.mono ?_
  rintro e w0 ⟨rfl, hb0⟩
  obtain ⟨e0, e1, e2, e3, e4, ef⟩ := hb0.cells
  rw [HTV.out] at e4
  have HT := hide (take_yes C B b _ (p :: rest) n W0 w0 hb0 HN.out)
  clear hb0 e0 e1 e2 e3 ef
  go_wp2_with fail
  refine HT.out.mono ?_
  rintro e w1 ⟨rfl, hb⟩
  clear e4
  obtain ⟨e0, e1, e2, e3, e4, ef⟩ := hb.cells
  rw [HTV.out] at e4
  have HB := hide hb
  clear hb e0 e1 e2 e3
  go_wp2_with (refine Lib.wpList_append_own_string _ rfl _ _ 58 9 rfl B 5 i0 Tryz.underlying58 Tryz.underlying9 HI1.out HZ0.out HZ1.out HZ2.out (.slice A N ct) 0 [] rfl (by have := (HB.out.tails p (List.mem_cons_self ..)).1; rw [HTV.out, HTL.out] at this; exact this) x rfl (by unfold maxLen; omega) (by omega) HB.out.size ?_
               intro v' w2 hown' hgrow _
               obtain ⟨ao, n', c', rfl⟩ : ∃ ao n' c', v' = .slice ao n' c' := by
                 rcases hown'.2 with ⟨hv, _⟩ | ⟨g0, c0, cur, hv, _⟩
                 · exact ⟨_, _, _, hv⟩
                 · exact ⟨_, _, _, hv⟩
               have hgt := hgrow
               rw [← HTV.out] at hgt
               have hlg : g < w1.heap.size := World.block_lt_of_cell? _ _ e4
               have hne : (Value.slice A N ct).ownBlock ≠ some g := by
                 have := ownsRow_other (HB.out.tails p (List.mem_cons_self ..)).1 (r := g) (fun cur => HB.out.rowOut.2.2.2 cur _ (by decide))
                 rw [HTV.out] at this; exact this
               have hgg : w2.heap[g]? = w1.heap[g]? := hgrow.block g hlg (fun e => hne e.symm)
               have d4 : w2.cell? ⟨g, rest.length * 5 + 4, none⟩ = some (.slice A N ct) := (World.cell?_of_block hgg).trans e4
               have f4 : w2.frozen? ⟨g, rest.length * 5 + 4, none⟩ = false := (World.frozen?_of_block hgg).trans (ef _)
               have HO2 : Hid (w2.ownsRow B 5 1 (.slice ao n' c') x.data.toList.length (cellsOf x.data.toList)) := hide (by
                 have h9 := hown'
                 rw [Nat.zero_add, List.nil_append] at h9
                 rw [toList_length]
                 exact h9)
               have HG2 := hide hgt
               clear hown' hgrow hgt hlg hgg hne)
  go_end0
  have := HB.out.moreTail HO2.out HG2.out (fun e => absurd e HX.out)
  exact ⟨rfl, _, this, rfl⟩
theorem charsFull_any (C:Nat -> Prop) (B b g cap:Nat) (p:PartV) (rest:List PartV) (W0 w:World) (h:BS C B b (.slice (some ⟨g,0,none⟩) (rest.length + 1) cap) (p :: rest) 5000 W0 w) (hl:rest.length <= 1000000) (x:ByteArray) (ht:p.tail = []) :
  Calls Tryz.prog 32 #[.pointer (some ⟨b,0,none⟩),.string x] w fun e w'=>e = .returned (.tuple #[]) /\ BS C B b (.slice (some ⟨g,0,none⟩) (rest.length + 1) cap) (p :: rest) 5000 W0 w':=by
 have htv:=(h.tails p (List.mem_cons_self ..)).2 ht;have HI:=hide (inner_at C B b g cap p rest 5000 W0 w h hl);have HTV:=hide htv;clear h htv ht;go_enter Tryz.func32,Tryz.ntmps32;go_wp2_with fail;refine HI.out.mono ?_;rintro e w0 ⟨rfl,hb0⟩;obtain ⟨e0,e1,e2,e3,e4,ef⟩:=hb0.cells;rw [HTV.out] at e4;have HT:=hide (take_no C B b _ (p :: rest) W0 w0 hb0);have HB:=hide hb0;clear hb0 e0 e1 e2 e3 ef;go_wp2_with fail;refine HT.out.mono ?_;rintro e w1 ⟨rfl,rfl⟩;go_wp2_with fail
 try simp only [Exit.inBlock,Exit.then]
 refine bodyPost_ret (results_none rfl _ _ _) rfl ?_;exact ⟨rfl,HB.out⟩
theorem chars_any (C:Nat -> Prop) (B b g cap:Nat) (p:PartV) (rest:List PartV) (n:Nat) (W0 w:World) (h:BS C B b (.slice (some ⟨g,0,none⟩) (rest.length + 1) cap) (p :: rest) n W0 w) (hl:rest.length <= 1000000) (hn:n <= 5000) (x:ByteArray) (hx:x.data.toList ≠ []) (hz:p.tail.length + x.size <= 140737488355328) :
  Calls Tryz.prog 32 #[.pointer (some ⟨b,0,none⟩),.string x] w fun e w'=>e = .returned (.tuple #[]) /\ Left B b (charsP x.data.toList (toLs (p :: rest),n)) W0 w':=by
 have hc:charsP x.data.toList (toLs (p :: rest),n) = if p.tail = [] then (if n = 5000 then (toLs (p :: rest),n) else ({ p.toL with tail:=x.data.toList } :: toLs rest,n + 1)) else ({ p.toL with tail:=p.tail ++ x.data.toList } :: toLs rest,n):=rfl
 rw [hc]
 by_cases ht:p.tail = []
 ·rw [if_pos ht]
  by_cases h5:n = 5000
  ·subst h5;rw [if_pos rfl];refine (charsFull_any C B b g cap p rest W0 w h hl x ht).mono ?_;rintro e w' ⟨rfl,hb⟩;exact ⟨rfl,C,_,_,hb,rfl⟩
  ·rw [if_neg h5];refine (charsNew_any C B b g cap p rest n W0 w h hl x hx (by omega) ht (by omega)).mono ?_;rintro e w' ⟨rfl,p',hb,he⟩;exact ⟨rfl,C,_,_,hb,by show p'.toL :: toLs rest = _;rw [he]⟩
 ·rw [if_neg ht];refine (charsTail_any C B b g cap p rest n W0 w h hl x hx hz ht).mono ?_;rintro e w' ⟨rfl,p',hb,he⟩;exact ⟨rfl,C,_,_,hb,by show p'.toL :: toLs rest = _;rw [he]⟩
theorem KRow.form {C:Nat -> Prop} {B:Nat} {v:Value} {ks:List KidV} {w:World} (h:KRow C B v ks w):∃ A c,v = .slice A ks.length c:=by
 rcases h.row.2 with ⟨hv,h0⟩ | ⟨g',cap',cur,hv,_⟩
 ·exact ⟨none,0,by rw [hv,h0]⟩
 ·exact ⟨_,_,hv⟩
def RoundC (B b n place gk:Nat) (F:List PartL) (W0 wr:World) (st:List PartV):Prop :=
  (∃ C r,BS C B b r st n W0 wr) /\ closeN gk (toLs st) = F /\ stW (toLs st) <= 5000 /\ (∀ p ∈ st,p.tail.length <= 70368744177664) /\ st.length <= 1000000
theorem toLs_length (st:List PartV):(toLs st).length = st.length:=List.length_map _
theorem kids_le {p:PartV} {st:List PartV} (hp:p ∈ st) (hs:stW (toLs st) <= 5000):p.kids.length <= 5000:=by
 have h1:∀ (l:List PartL) (q:PartL),q ∈ l -> q.kids.length <= stW l:=by
  intro l
  induction l with
  | nil=>intro q hq;cases hq
  | cons x r ih =>
   intro q hq;have hx:x.kids.length <= x.wt:=Nat.le_trans (kidsW_len _) (Nat.le_add_right _ _);cases r with
   | nil =>
    obtain rfl:=List.mem_singleton.1 hq;exact hx
   | cons y r =>
    rw [stW_cons];rcases List.mem_cons.1 hq with rfl | hq
    ·omega
    ·have:=ih q hq;omega
 have:=h1 (toLs st) p.toL (List.mem_map_of_mem hp);simp only [PartV.toL,List.length_map] at this;omega
theorem closeFrom_any (C : Nat → Prop) (B b : Nat) (r : Value) (st : List PartV) (n place : Nat) (W0 w : World) (h : BS C B b r st n W0 w) (hp : 1 ≤ place) (hps : place ≤ st.length) (hw : stW (toLs st) ≤ 5000) (htl : ∀ p ∈ st, p.tail.length ≤ 70368744177664) (hl : st.length ≤ 1000000) :
    Calls Tryz.prog 36 #[.pointer (some ⟨b, 0, none⟩), .int .i64 place] w fun e w' => e = .returned (.tuple #[]) ∧ ∃ st', (∃ C' r', BS C' B b r' st' n W0 w') ∧ toLs st' = closeN (st.length - place) (toLs st) ∧ ∀ p ∈ st', p.tail.length ≤ 70368744177664 := by
  obtain ⟨F, hF⟩ : ∃ F, F = closeN (st.length - place) (toLs st) := ⟨_, rfl⟩
  have HS : Hid (RoundC B b n place (st.length - place) F W0 w st) := hide ⟨⟨C, r, h⟩, hF.symm, hw, htl, hl⟩
  have HF := hide hF
  clear h hw htl hl
  go_enter Tryz.func36, Tryz.ntmps36
  go_wp2_with fail
  go_loopg [4, 5] (st.length - place) (fun gk u4 u5 wr => ∃ st' : List PartV, st'.length = place + gk ∧ Hid (RoundC B b n place gk F W0 wr st'))
  case atStart => exact ⟨st, by omega, HS.out⟩
  case round =>
    obtain ⟨st', hlen, HR⟩ := hrel
    cases gk with
    | zero =>
      obtain ⟨⟨C1, r1, hb⟩, h1, h2, h3, h4⟩ := HR.out
      obtain ⟨g, cap, rfl, i1, i2, i3, i4⟩ := hb.form (fun e => by rw [e] at hlen; simp at hlen; omega)
      rw [hlen] at hb
      have c0 := hb.c0
      have t0 : decide ((place : Int) < ((place + 0 : Nat) : Int)) = false := decide_eq_false (by omega)
      have HE : Hid (∃ st', (∃ C' r', BS C' B b r' st' n W0 wr) ∧ toLs st' = F ∧ ∀ p ∈ st', p.tail.length ≤ 70368744177664) := hide ⟨st', ⟨C1, _, hb⟩, h1, h3⟩
      clear hb h1 h2 h3 h4 i1 i2 i3 i4 HR hlen
      go_wp2_with fail
      go_end0
      refine ⟨rfl, ?_⟩
      rw [← HF.out]
      exact HE.out
    | succ gk =>
      match st', hlen, HR with
      | [], hlen, _ => exact absurd hlen (by intro e; simp only [List.length_nil] at e; omega)
      | [p], hlen, _ => exact absurd hlen (by intro e; simp only [List.length_cons, List.length_nil] at e; omega)
      | p :: q :: rest, hlen, HR =>
        obtain ⟨⟨C1, r1, hb⟩, h1, h2, h3, h4⟩ := HR.out
        obtain ⟨g, cap, rfl, i1, i2, i3, i4⟩ := hb.form (by simp)
        have hb2 : BS C1 B b (.slice (some ⟨g, 0, none⟩) (rest.length + 1 + 1) cap) (p :: q :: rest) n W0 wr := hb
        have c0 := hb2.c0
        have f0 := hb2.free 0
        have hl1 : rest.length + 2 = place + (gk + 1) := by simpa using hlen
        have t0 : decide ((place : Int) < (rest.length : Int) + 1 + 1) = true := decide_eq_true (by omega)
        simp only [List.length_cons] at h4 i1
        have hi : Calls Tryz.prog 37 #[.pointer (some ⟨b, 0, none⟩)] wr fun e w' => e = .returned (.pointer (some ⟨g, (rest.length + 1) * 5, none⟩)) ∧ BS C1 B b (.slice (some ⟨g, 0, none⟩) (rest.length + 1 + 1) cap) (p :: q :: rest) n W0 w' := inner_at C1 B b g cap p (q :: rest) n W0 wr hb2 (by simp only [List.length_cons]; omega)
        have HI := hide hi
        have HKL := hide (kids_le (p := p) (List.mem_cons_self ..) h2)
        have HQL := hide (kids_le (p := q) (List.mem_cons_of_mem _ (List.mem_cons_self ..)) h2)
        have HH := hide (And.intro h1 (And.intro h2 (And.intro h3 h4)))
        have HC1 := hide i1
        have HLN := hide hl1
        clear hb hb2 hi h1 h2 h3 h4 i1 i2 i3 i4 HR hlen hl1
        go_wp2_with fail
        refine HI.out.mono ?_
        rintro e w1 ⟨rfl, hb1⟩
        have he : Calls Tryz.prog 38 #[.pointer (some ⟨g, (rest.length + 1) * 5, none⟩)] w1 fun e w' => e = .returned (.tuple #[]) ∧ ∃ p', BS C1 B b (.slice (some ⟨g, 0, none⟩) (rest.length + 1 + 1) cap) (p' :: q :: rest) n W0 w' ∧ p'.toL = endTextL p.toL := endTextT_any C1 B b g cap p (q :: rest) n W0 w1 hb1 (by simp only [List.length_cons]; have := HH.out.2.2.2; omega) (by have := HKL.out; omega) (HH.out.2.2.1 p (List.mem_cons_self ..))
        have HE := hide he
        clear hb1 he c0 f0
        go_wp2_with fail
        refine HE.out.mono ?_
        rintro e w2 ⟨rfl, p', hb2, hp'⟩
        have c0 := hb2.c0
        have f0 := hb2.free 0
        obtain ⟨C2, k1, k2, k3⟩ := hb2.shrink
        have hcc : w2.cell? ⟨g, (rest.length + 1) * 5, none⟩ = some (.string (str p'.name)) ∧ w2.cell? ⟨g, (rest.length + 1) * 5 + 1, none⟩ = some p'.av ∧ w2.cell? ⟨g, (rest.length + 1) * 5 + 2, none⟩ = some (.string ⟨#[]⟩) ∧ w2.cell? ⟨g, (rest.length + 1) * 5 + 3, none⟩ = some p'.kv ∧ w2.cell? ⟨g, (rest.length + 1) * 5 + 4, none⟩ = some p'.tv ∧ (∀ i, w2.frozen? ⟨g, i, none⟩ = false) := BS.cells (rest := q :: rest) hb2
        obtain ⟨x0, x1, x2, x3, x4, xf⟩ := hcc
        have HB3 := hide k1
        have HA3 := hide k2
        have HN3 := hide k3
        have hav : ∃ A c, p'.av = .slice A p'.attrs.length c := by
          obtain ⟨a, c, e⟩ := k2.1.form
          exact ⟨a, c, e⟩
        obtain ⟨KA, KC, hkv⟩ := (hb2.kids p' (List.mem_cons_self ..)).form
        obtain ⟨AA, AC, hav⟩ := hav
        have hne := hb2.rowOut.1
        rw [hav] at x1
        rw [hkv] at x3
        have HP := hide hp'
        have HKV := hide hkv
        have HAV := hide hav
        have tn1 : wrap64 ((rest.length : Int) + 1 + 1 - 1) = (rest.length : Int) + 1 := by unfold wrap64; have := HH.out.2.2.2; omega
        have tn6 : IntKind.i64.wrap ((rest.length : Int) + 1) = (rest.length : Int) + 1 := IntWalk.i64_in _ (by have := HH.out.2.2.2; omega)
        have tn7 : wrap64 ((rest.length : Int) + 1) = (rest.length : Int) + 1 := by unfold wrap64; have := HH.out.2.2.2; omega
        have tn2 : (0 : Int) ≤ (rest.length : Int) + 1 := by omega
        have tn3 : (rest.length : Int) + 1 ≤ (cap : Int) := by have := HC1.out; omega
        have tn4 : ((rest.length : Int) + 1).toNat = rest.length + 1 := by omega
        clear hb2 k1 k2 k3 hp' hkv hav
        go_wp2_with fail
        go_region
        have hfar : ∀ k, (w2.setCell ⟨b, 0, none⟩ (.slice (some ⟨g, 0, none⟩) (rest.length + 1) cap)).drew.cell? ⟨g, k, none⟩ = w2.cell? ⟨g, k, none⟩ := fun k => World.cell?_of_block (Below.heap_setCell w2 ⟨b, 0, none⟩ _ g hne)
        have y0 := (hfar _).trans x0
        have y1 := (hfar _).trans x1
        have y2 := (hfar _).trans x2
        have y3 := (hfar _).trans x3
        have hb4 := HB3.out.kept (Below.refl _ _).drew
        have ha4 : AttrsC C2 (w2.setCell ⟨b, 0, none⟩ (.slice (some ⟨g, 0, none⟩) (rest.length + 1) cap)).drew p'.av p'.attrs := HA3.out.mono (fun _ _ => rfl) (fun _ x => x)
        have hn4 : NodesC C2 (w2.setCell ⟨b, 0, none⟩ (.slice (some ⟨g, 0, none⟩) (rest.length + 1) cap)).drew p'.kv (Tr.of (p'.kids.map Prod.fst)) := HN3.out.mono (fun _ _ => rfl) (fun _ x => x)
        clear hfar x0 x1 x2 x3 x4 xf c0 f0 HB3 HA3 HN3 HE HI
        generalize (w2.setCell ⟨b, 0, none⟩ (.slice (some ⟨g, 0, none⟩) (rest.length + 1) cap)).drew = W3 at y0 y1 y2 y3 hb4 ha4 hn4 ⊢
        have HI4 := hide (inner_at2 C2 B b g cap q rest n W0 W3 hb4 (by have := HH.out.2.2.2; omega))
        have HB4 := hide hb4
        have HA4 := hide ha4
        have HN4 := hide hn4
        have HY := hide (And.intro y0 (And.intro y1 (And.intro y2 y3)))
        clear hb4 ha4 hn4 y0 y1 y2 y3
        go_wp2_with fail
        refine HI4.out.mono ?_
        rintro e w4 ⟨rfl, hb5, m, hm⟩
        have hsame : ∀ k : Nat, w4.heap[k]? = W3.heap[k]? := fun k => by rw [hm]; rfl
        have y0 := (World.cell?_of_block (a := ⟨g, (rest.length + 1) * 5, none⟩) (hsame g)).trans HY.out.1
        have y1 := (World.cell?_of_block (a := ⟨g, (rest.length + 1) * 5 + 1, none⟩) (hsame g)).trans HY.out.2.1
        have y2 := (World.cell?_of_block (a := ⟨g, (rest.length + 1) * 5 + 2, none⟩) (hsame g)).trans HY.out.2.2.1
        have y3 := (World.cell?_of_block (a := ⟨g, (rest.length + 1) * 5 + 3, none⟩) (hsame g)).trans HY.out.2.2.2
        have HA5 := hide (HA4.out.mono (C' := C2) (w' := w4) (fun k _ => hsame k) (fun _ x => x))
        have HN5 := hide (HN4.out.mono (C' := C2) (w' := w4) (fun k _ => hsame k) (fun _ x => x))
        have HB5 := hide hb5
        obtain ⟨QA, QC, hqv⟩ := (hb5.kids q (List.mem_cons_self ..)).form
        obtain ⟨z0, z1, z2, z3, z4, zf⟩ := hb5.cells
        rw [hqv] at z3
        have HQV := hide hqv
        clear hb5 hqv hm hsame HA4 HN4 HY HB4 HI4 z0 z1 z2 z4
        have HOWN : Hid (∀ W, Below w4.heap.size w4 W → W.ownsRow B 36 4 (.slice QA q.kids.length QC) q.kids.length (nodeVals q.kids)) := hide fun W hW => by
          have := ((HB5.out.kept hW).kids q (List.mem_cons_self ..)).row
          rw [HQV.out] at this; exact this
        have z3a : ∀ ob, (w4.alloc ob).cell? ⟨g, rest.length * 5 + 3, none⟩ = some (.slice QA q.kids.length QC) := fun ob => ((below_one w4 ob).cell (World.block_lt_of_cell? _ _ z3)).trans z3
        have y0a : ∀ ob, (w4.alloc ob).cell? ⟨g, (rest.length + 1) * 5, none⟩ = some (.string (str p'.name)) := fun ob => ((below_one w4 ob).cell (World.block_lt_of_cell? _ _ y0)).trans y0
        have y1a : ∀ ob, (w4.alloc ob).cell? ⟨g, (rest.length + 1) * 5 + 1, none⟩ = some (.slice AA p'.attrs.length AC) := fun ob => ((below_one w4 ob).cell (World.block_lt_of_cell? _ _ y1)).trans y1
        have y2a : ∀ ob, (w4.alloc ob).cell? ⟨g, (rest.length + 1) * 5 + 2, none⟩ = some (.string ⟨#[]⟩) := fun ob => ((below_one w4 ob).cell (World.block_lt_of_cell? _ _ y2)).trans y2
        have y3a : ∀ ob, (w4.alloc ob).cell? ⟨g, (rest.length + 1) * 5 + 3, none⟩ = some (.slice KA p'.kids.length KC) := fun ob => ((below_one w4 ob).cell (World.block_lt_of_cell? _ _ y3)).trans y3
        have tn5 : ((q.kids.length : Nat) : Int) < (q.kids.length : Int) + 1 := by omega
        clear tn1 tn2 tn3 tn4 tn6 tn7
        go_wp2_with fail
        go_region_law (first
          | (refine step_node0 rfl _ _ rfl B (.slice QA q.kids.length QC) q.kids rfl (HOWN.out _ ?_) ?_ ⟨w4.heap.size, 0, none⟩ rfl (node_row _ _ _ _ _).1 (node_row _ _ _ _ _).2.1 (node_row _ _ _ _ _).2.2.1 (node_row _ _ _ _ _).2.2.2 (by have := HQL.out; omega) ?_
             · exact ((Below.refl _ _).alloc (Nat.le_refl _) _).drew
             · exact Nat.le_trans HB5.out.size (((Below.refl w4.heap.size w4).alloc (Nat.le_refl _) _).drew).size
             intro g' cap' w5 ho2 hg2 hor2 hc2 hm2
             have hk1 : Below w4.heap.size w4 (w4.alloc (.cells #[.string ⟨#[]⟩, .slice none 0 0, .string ⟨#[]⟩, .slice none 0 0] 36)).drew := ((Below.refl w4.heap.size w4).alloc (Nat.le_refl _) _).drew
             have HB1 := hide (HB5.out.kept hk1)
             have HA6 := hide (HA5.out.mono (C' := C2) (fun k hk => hk1.block k (HB5.out.typ k hk).1) (fun _ x => x))
             have HN6 := hide (HN5.out.mono (C' := C2) (fun k hk => hk1.block k (HB5.out.typ k hk).1) (fun _ x => x))
             have hg3 := hg2
             rw [← HQV.out] at hg3 hor2
             obtain ⟨n1, n2, ⟨n3, n4, n5, n6⟩, n7, n8⟩ := app_facts HB1.out ho2 hg3 hor2
             have n9 : w5.cell? ⟨g, rest.length * 5 + 3, none⟩ = some (.slice QA q.kids.length QC) := (n8 _).trans (z3a _)
             have n11 : ¬ (g = g') := fun e => n1 e.symm
             have HO2 := hide ho2
             have HG2 := hide hg3
             have HOR := hide hor2
             clear ho2 hg2 hg3 hor2 hc2 hm2 n8 hk1))
        all_goals
          first | rw [kid_comm w5 n11] | skip
          have hb6 := HB1.out.kidWritten (q := ((⟨p'.name, p'.attrs, []⟩, Tr.of (p'.kids.map Prod.fst)), (p'.av, p'.kv))) HO2.out HG2.out HOR.out ⟨HA6.out, HN6.out⟩
          simp only at hb6
          rw [HAV.out, HKV.out] at hb6
          have HB7 := hide hb6
          clear hb6
          go_wp2_with fail
          go_roundg gk
          case rel =>
            have heq : toLs (({ q with kids := q.kids ++ [((⟨p'.name, p'.attrs, []⟩, Tr.of (p'.kids.map Prod.fst)), (.slice AA p'.attrs.length AC, .slice KA p'.kids.length KC))], kv := .slice (some ⟨g', 0, none⟩) (q.kids.length + 1) cap' } : PartV) :: rest) = closeTop (toLs (p :: q :: rest)) := by
              show _ = { q.toL with kids := q.toL.kids ++ [(endTextL p.toL).node] } :: toLs rest
              rw [← HP.out]
              simp [toLs, PartV.toL, PartL.node]
            refine ⟨_ :: rest, by have := HLN.out; simp only [List.length_cons]; omega, hide ⟨⟨C2, _, HB7.out⟩, ?_, ?_, ?_, ?_⟩⟩
            · rw [heq]; exact HH.out.1
            · rw [heq, closeTop_wt]; exact HH.out.2.1
            · intro x hx
              rcases List.mem_cons.1 hx with rfl | hx
              · exact HH.out.2.2.1 q (List.mem_cons_of_mem _ (List.mem_cons_self ..))
              · exact HH.out.2.2.1 x (List.mem_cons_of_mem _ (List.mem_cons_of_mem _ hx))
            · have := HH.out.2.2.2; simp only [List.length_cons]; omega
          case measure => omega
def closeB (is:List UInt8 -> Bool) (s:List PartL):List PartL:=match findP is s with
  | none=>s
  | some k=>closeN k s
def AskAt (K bt:Nat) (nm:ByteArray) (is:List UInt8 -> Bool):Prop :=
  ∀ (w1:World) (g o:Nat) (x:List UInt8),w1.cell? ⟨bt,1,none⟩ = some (.string nm) -> w1.cell? ⟨g,o,none⟩ = some (.string (str x)) ->
    Calls Tryz.prog K #[.pointer (some ⟨g,o,none⟩),.pointer (some ⟨bt,0,none⟩)] w1 fun e w'=>e = .returned (.bool (is x)) /\ ∃ m,w' = w1.drewN m
theorem findP_cons {is:List UInt8 -> Bool} (p q:PartL) (r:List PartL):findP is (p :: q :: r) = if is p.name = true then some 1 else if wallB p.name = true then none else (findP is (q :: r)).map (· + 1):=rfl
def AskedC (is:List UInt8 -> Bool) (st:List PartV) (k:Nat):Prop:=∃ pre p rest,st = pre ++ p :: rest /\ rest.length = k /\ findP is (toLs st) = (findP is (toLs (p :: rest))).map (· + pre.length)
theorem BS.cellOf {C:Nat -> Prop} {B b g cap m:Nat} {pre:List PartV} {p:PartV} {rest:List PartV} {n:Nat} {W0 w:World} (h:BS C B b (.slice (some ⟨g,0,none⟩) m cap) (pre ++ p :: rest) n W0 w):w.cell? ⟨g,rest.length * 5,none⟩ = some (.string (str p.name)):=by
 have hr:=h.row;have e1:=partVals_at rest.reverse p 0 (by decide) pre.reverse;rw [List.length_reverse] at e1
 have e2:(partVals (pre ++ p :: rest).reverse)[rest.length * 5 + 0]? = some (.string (str p.name)):=by
  rw [List.reverse_append,List.reverse_cons,List.append_assoc,List.singleton_append];exact e1
 have:=hr.cells (g:=g) rfl _ _ e2;rw [Addr.add_lit,Nat.zero_add,Nat.add_zero] at this;exact this
theorem close_gen (K bt:Nat) (nm:ByteArray) (is:List UInt8 -> Bool) (hK:∀ args w,(callFunc K args).run Tryz.prog w = .ok (.enter K args) w) (hask:AskAt K bt nm is)
  (C:Nat -> Prop) (B b:Nat) (r:Value) (st:List PartV) (n:Nat) (W0 w:World) (h:BS C B b r st n W0 w) (hs:st ≠ []) (hw:stW (toLs st) <= 5000) (htl:∀ p ∈ st,p.tail.length <= 70368744177664) (hl:st.length <= 1000000) (hbt:w.cell? ⟨bt,1,none⟩ = some (.string nm)) :
  Calls Tryz.prog 34 #[.pointer (some ⟨b,0,none⟩),.func (.func K) #[] #[.pointer (some ⟨bt,0,none⟩)]] w fun e w'=>e = .returned (.bool (findP is (toLs st)).isSome) /\
   ∃ st',(∃ C' r',BS C' B b r' st' n W0 w') /\ toLs st' = closeB is (toLs st) /\ ∀ p ∈ st',p.tail.length <= 70368744177664:=by
 obtain ⟨g,cap,rfl,i1,i2,i3,i4⟩:=h.form hs;have c0:=h.c0;obtain ⟨M,hM⟩:∃ M,st.length = M + 1:=⟨st.length - 1,by have:=List.length_pos_iff.2 hs;omega⟩
 have HB:=hide h
 have HS:Hid (AskedC is st M):=hide (by
  match st,hs,hM with
  | p :: rest,_,hM=>exact ⟨[],p,rest,rfl,by simpa using hM,by simp⟩)
 have HQ:=hide (And.intro hw (And.intro htl hl));have HASK:=hide hask;have HBT:=hide hbt;have HM:=hide hM;rw [hM] at c0;have hM2:M <= 1000000:=by omega
 have tn1:wrap64 ((M:Int) + 1 - 1) = (M:Int):=by unfold wrap64;omega
 clear h hs hw htl hl hask hbt i1 i2 i3 i4 hM;go_enter Tryz.func34,Tryz.ntmps34;go_wp2_with fail;go_loopg [5] M (fun gk i wr=>gk <= M /\ i = .int .i64 gk /\ Hid (∃ m,wr = w.drewN m) /\ Hid (AskedC is st gk))
 case atStart=>exact ⟨Nat.le_refl _,by first | rfl | (congr 1;omega),hide ⟨0,rfl⟩,HS.out⟩
 case round =>
  obtain ⟨hgk,rfl,HD,HA⟩:=hrel;obtain ⟨m,rfl⟩:=HD.out;have hbw:∀ q,Below w.heap.size w (w.drewN q):=fun q=>⟨rfl,rfl,rfl,Nat.le_refl _,fun _ _=>rfl⟩
  cases gk with
  | zero =>
   have hf:findP is (toLs st) = none:=by
    obtain ⟨pre,p,rest,h1,h2,h3⟩:=HA.out;have:=List.eq_nil_of_length_eq_zero h2;subst this;rw [h3];rfl
   have HE:Hid ((findP is (toLs st)).isSome = false /\ ∃ st',(∃ C' r',BS C' B b r' st' n W0 (w.drewN m)) /\ toLs st' = closeB is (toLs st) /\ ∀ p ∈ st',p.tail.length <= 70368744177664):=hide ⟨by rw [hf];rfl,st,⟨C,_,HB.out.kept (hbw m)⟩,by unfold closeB;rw [hf],HQ.out.2.1⟩;have t0:decide ((0:Int) < ((0:Nat):Int)) = false:=by decide
   clear hf HA HD;go_wp2_with fail;go_ret;rw [HE.out.1];exact ⟨rfl,HE.out.2⟩
  | succ k =>
   have t0:decide ((0:Int) < ((k + 1:Nat):Int)) = true:=decide_eq_true (by omega);have t1:(k:Int) + 1 < (M:Int) + 1:=by omega
   have t2:(0:Int) <= (k:Int) + 1:=by omega
   have t3:((k:Int) + 1).toNat = k + 1:=by omega
   obtain ⟨pre,p,rest,e1,e2,e3⟩:=HA.out
   obtain ⟨q,rest,rfl⟩:∃ q r,rest = q :: r:=by
    cases rest with
    | nil=>simp at e2
    | cons q r=>exact ⟨q,r,rfl⟩
   have hk:rest.length = k:=by simpa using e2
   have hpl:pre.length + k + 1 = M:=by
    have:=HM.out;rw [e1] at this;simp only [List.length_append,List.length_cons] at this;omega
   have hc:=HB.out.kept (hbw m);rw [e1] at hc
   have hcell:(w.drewN m).cell? ⟨g,(k + 1) * 5,none⟩ = some (.string (str p.name)):=by
    have:=BS.cellOf hc;rw [e2] at this;exact this
   have HC:=hide hcell;have hfc:findP is (toLs (p :: q :: rest)) = if is p.name = true then some 1 else if wallB p.name = true then none else (findP is (toLs (q :: rest))).map (· + 1):=findP_cons p.toL q.toL (toLs rest)
   have HAK:=hide (HASK.out (w.drewN m) g ((k + 1) * 5) p.name HBT.out hcell);obtain ⟨X,hX⟩:∃ X,X = str p.name:=⟨_,rfl⟩
   have hcw:w.cell? ⟨g,(k + 1) * 5,none⟩ = some (.string X):=by rw [hX];exact hcell
   clear hcell;cases hi:is p.name with
   | true =>
    rw [hi] at HAK;rw [hfc,if_pos hi] at e3;have hfs:findP is (toLs st) = some (pre.length + 1):=by rw [e3];simp;omega
    have hln:st.length - (k + 1) = pre.length + 1:=by have:=HM.out;omega
    have HF:=hide (fun q=>by
     have:=closeFrom_any C B b _ st n (k + 1) W0 (w.drewN q) (HB.out.kept (hbw q)) (by omega) (by have:=HM.out;omega) HQ.out.1 HQ.out.2.1 HQ.out.2.2;rw [show ((k + 1:Nat):Int) = (k:Int) + 1 by omega] at this;exact this)
    have HE:Hid ((findP is (toLs st)).isSome = true /\ closeB is (toLs st) = closeN (st.length - (k + 1)) (toLs st)):=hide ⟨by rw [hfs];rfl,by unfold closeB;rw [hfs,hln]⟩;clear e1 e2 e3 hk hpl hc hfc hi hfs hln HA HD hX;go_wp2_with fail;refine HAK.out.mono ?_;rintro e w1 ⟨rfl,mm,rfl⟩;go_wp2_with fail;refine (HF.out _).mono ?_;rintro e w2 ⟨rfl,hE⟩;have HEE:=hide hE;clear hE;go_wp2_with fail;go_ret;rw [HE.out.1,HE.out.2];exact ⟨rfl,HEE.out⟩
   | false =>
    rw [hi] at HAK;rw [hfc,if_neg (by rw [hi];exact Bool.false_ne_true)] at e3;have hzz:str p.name = X:=hX.symm;cases hw:wallB p.name with
    | true =>
     rw [if_pos hw] at e3;have hfs:findP is (toLs st) = none:=by rw [e3];rfl
     have HW:Hid (∀ w,Calls Tryz.prog 56 #[.string X] w fun e w'=>e = .returned (.bool true) /\ w = w'):=hide fun w=>by
      have:=isWall_any X w;rw [hX,str_toList,show wallL.contains p.name = true from hw,<- hX] at this;exact this
     have HE:Hid ((findP is (toLs st)).isSome = false /\ ∀ q,∃ st',(∃ C' r',BS C' B b r' st' n W0 (w.drewN q)) /\ toLs st' = closeB is (toLs st) /\ ∀ p ∈ st',p.tail.length <= 70368744177664):=hide ⟨by rw [hfs];rfl,fun q=>⟨st,⟨C,_,HB.out.kept (hbw q)⟩,by unfold closeB;rw [hfs],HQ.out.2.1⟩⟩;clear e1 e2 e3 hk hpl hc hfc hi hfs hw HA HD hX hzz;go_wp2_with fail;refine HAK.out.mono ?_;rintro e w1 ⟨rfl,mm,rfl⟩;go_wp2_with fail;refine (HW.out _).mono ?_;rintro e w2 ⟨rfl,rfl⟩;go_wp2_with fail;go_ret;rw [HE.out.1];exact ⟨rfl,HE.out.2 _⟩
    | false =>
     rw [if_neg (by rw [hw];exact Bool.false_ne_true)] at e3
     have HW:Hid (∀ w,Calls Tryz.prog 56 #[.string X] w fun e w'=>e = .returned (.bool false) /\ w = w'):=hide fun w=>by
      have:=isWall_any X w;rw [hX,str_toList,show wallL.contains p.name = false from hw,<- hX] at this;exact this
     have HN:Hid (AskedC is st k):=hide ⟨pre ++ [p],q,rest,by rw [e1];simp,hk,by
      rw [e3,Option.map_map,List.length_append]
      congr 1
      funext z
      simp only [Function.comp_apply,List.length_cons,List.length_nil];omega⟩
     have tk1:wrap64 ((k:Int) + 1 - 1) = (k:Int):=by unfold wrap64;omega
     have HKM:=hide (show k <= M by omega);clear e1 e2 e3 hk hpl hc hfc hi hw HA HD hX hzz;go_wp2_with fail;refine HAK.out.mono ?_;rintro e w1 ⟨rfl,mm,rfl⟩;go_wp2_with fail;refine (HW.out _).mono ?_;rintro e w2 ⟨rfl,rfl⟩;go_wp2_with fail;go_roundg k
     case rel=>exact ⟨HKM.out,by first | rfl | (congr 1;omega),hide ⟨m + mm,by first | rfl | rw [World.drewN_drewN]⟩,HN⟩
     case measure=>omega
theorem closes14_pure (n o:List UInt8) (h:o ≠ [112] /\ o ≠ [100,100] /\ o ≠ [100,116] /\ o ≠ [116,100] /\ o ≠ [116,104] /\ o ≠ [108,105] /\ o ≠ [97] /\ o ≠ [111,112,116,105,111,110] /\ o ≠ [116,114] /\ o ≠ [110,111,98,114] /\ o ≠ [98,117,116,116,111,110]):closesB n o = (headNB o && headNB n):=by
 unfold closesB;rw [if_neg h.1,if_neg (fun e=>e.elim h.2.1 h.2.2.1),if_neg (fun e=>e.elim h.2.2.2.1 h.2.2.2.2.1),if_neg];have h2:=h.2.2.2.2.2;simp only [sameL,List.contains_cons,List.contains_nil,Bool.or_false,Bool.or_eq_true,beq_iff_eq,not_or];exact h2
theorem closes14_any (n o:ByteArray) (w:World):Calls Tryz.prog 55 #[.string n,.string o] w fun e w'=>e = .returned (.bool (closesB n.data.toList o.data.toList)) /\ w = w':=by
 by_cases h0:o.data.toList = [112]
 ·obtain rfl:=ext_lit h0;have hb:=isBlock_any n w;have he:closesB n.data.toList (⟨#[112]⟩:ByteArray).data.toList = blockNL.contains n.data.toList:=rfl;rw [he];obtain ⟨bb,hbb⟩:∃ bb,bb = blockNL.contains n.data.toList:=⟨_,rfl⟩
  rw [<- hbb] at hb ⊢;have HB:=hide hb;clear h0 hb he hbb;go_enter Tryz.func55,Tryz.ntmps55;go_wp2_with fail;refine HB.out.mono ?_;rintro e w1 ⟨rfl,rfl⟩;go_wp2_with fail;go_ret;exact ⟨rfl,rfl⟩
 by_cases h1:o.data.toList = [100,100]
 ·obtain rfl:=ext_lit h1;clear h0 h1
  by_cases m:n.data.toList = [100,100]
  ·obtain rfl:=ext_lit m;clear m;rw [show closesB (⟨#[100,100]⟩:ByteArray).data.toList (⟨#[100,100]⟩:ByteArray).data.toList = true by decide];go_enter Tryz.func55,Tryz.ntmps55;go_wp2_with fail;go_ret;exact ⟨rfl,rfl⟩
  have m0:=m;clear m
  by_cases m:n.data.toList = [100,116]
  ·obtain rfl:=ext_lit m;clear m;rw [show closesB (⟨#[100,116]⟩:ByteArray).data.toList (⟨#[100,100]⟩:ByteArray).data.toList = true by decide];go_enter Tryz.func55,Tryz.ntmps55;go_wp2_with fail;go_ret;exact ⟨rfl,rfl⟩
  have m1:=m;clear m;have t0:=nb_lit m0;have t1:=nb_lit m1
  have HE:closesB n.data.toList (⟨#[100,100]⟩:ByteArray).data.toList = false:=by
   show decide (n.data.toList = [100,100] \/ n.data.toList = [100,116]) = false
   exact decide_eq_false (by simp only [not_or];exact ⟨m0,m1⟩)
  clear m0 m1;rw [HE];clear HE;go_enter Tryz.func55,Tryz.ntmps55;go_wp2_with fail;go_ret;exact ⟨rfl,rfl⟩
 by_cases h2:o.data.toList = [100,116]
 ·obtain rfl:=ext_lit h2;clear h0 h1 h2
  by_cases m:n.data.toList = [100,100]
  ·obtain rfl:=ext_lit m;clear m;rw [show closesB (⟨#[100,100]⟩:ByteArray).data.toList (⟨#[100,116]⟩:ByteArray).data.toList = true by decide];go_enter Tryz.func55,Tryz.ntmps55;go_wp2_with fail;go_ret;exact ⟨rfl,rfl⟩
  have m0:=m;clear m
  by_cases m:n.data.toList = [100,116]
  ·obtain rfl:=ext_lit m;clear m;rw [show closesB (⟨#[100,116]⟩:ByteArray).data.toList (⟨#[100,116]⟩:ByteArray).data.toList = true by decide];go_enter Tryz.func55,Tryz.ntmps55;go_wp2_with fail;go_ret;exact ⟨rfl,rfl⟩
  have m1:=m;clear m;have t0:=nb_lit m0;have t1:=nb_lit m1
  have HE:closesB n.data.toList (⟨#[100,116]⟩:ByteArray).data.toList = false:=by
   show decide (n.data.toList = [100,100] \/ n.data.toList = [100,116]) = false
   exact decide_eq_false (by simp only [not_or];exact ⟨m0,m1⟩)
  clear m0 m1;rw [HE];clear HE;go_enter Tryz.func55,Tryz.ntmps55;go_wp2_with fail;go_ret;exact ⟨rfl,rfl⟩
 by_cases h3:o.data.toList = [116,100]
 ·obtain rfl:=ext_lit h3;clear h0 h1 h2 h3
  by_cases m:n.data.toList = [116,100]
  ·obtain rfl:=ext_lit m;clear m;rw [show closesB (⟨#[116,100]⟩:ByteArray).data.toList (⟨#[116,100]⟩:ByteArray).data.toList = true by decide];go_enter Tryz.func55,Tryz.ntmps55;go_wp2_with fail;go_ret;exact ⟨rfl,rfl⟩
  have m0:=m;clear m
  by_cases m:n.data.toList = [116,104]
  ·obtain rfl:=ext_lit m;clear m;rw [show closesB (⟨#[116,104]⟩:ByteArray).data.toList (⟨#[116,100]⟩:ByteArray).data.toList = true by decide];go_enter Tryz.func55,Tryz.ntmps55;go_wp2_with fail;go_ret;exact ⟨rfl,rfl⟩
  have m1:=m;clear m
  by_cases m:n.data.toList = [116,114]
  ·obtain rfl:=ext_lit m;clear m;rw [show closesB (⟨#[116,114]⟩:ByteArray).data.toList (⟨#[116,100]⟩:ByteArray).data.toList = true by decide];go_enter Tryz.func55,Tryz.ntmps55;go_wp2_with fail;go_ret;exact ⟨rfl,rfl⟩
  have m2:=m;clear m;have t0:=nb_lit m0;have t1:=nb_lit m1;have t2:=nb_lit m2
  have HE:closesB n.data.toList (⟨#[116,100]⟩:ByteArray).data.toList = false:=by
   show decide (n.data.toList = [116,100] \/ n.data.toList = [116,104] \/ n.data.toList = [116,114]) = false
   exact decide_eq_false (by simp only [not_or];exact ⟨m0,m1,m2⟩)
  clear m0 m1 m2;rw [HE];clear HE;go_enter Tryz.func55,Tryz.ntmps55;go_wp2_with fail;go_ret;exact ⟨rfl,rfl⟩
 by_cases h4:o.data.toList = [116,104]
 ·obtain rfl:=ext_lit h4;clear h0 h1 h2 h3 h4
  by_cases m:n.data.toList = [116,100]
  ·obtain rfl:=ext_lit m;clear m;rw [show closesB (⟨#[116,100]⟩:ByteArray).data.toList (⟨#[116,104]⟩:ByteArray).data.toList = true by decide];go_enter Tryz.func55,Tryz.ntmps55;go_wp2_with fail;go_ret;exact ⟨rfl,rfl⟩
  have m0:=m;clear m
  by_cases m:n.data.toList = [116,104]
  ·obtain rfl:=ext_lit m;clear m;rw [show closesB (⟨#[116,104]⟩:ByteArray).data.toList (⟨#[116,104]⟩:ByteArray).data.toList = true by decide];go_enter Tryz.func55,Tryz.ntmps55;go_wp2_with fail;go_ret;exact ⟨rfl,rfl⟩
  have m1:=m;clear m
  by_cases m:n.data.toList = [116,114]
  ·obtain rfl:=ext_lit m;clear m;rw [show closesB (⟨#[116,114]⟩:ByteArray).data.toList (⟨#[116,104]⟩:ByteArray).data.toList = true by decide];go_enter Tryz.func55,Tryz.ntmps55;go_wp2_with fail;go_ret;exact ⟨rfl,rfl⟩
  have m2:=m;clear m;have t0:=nb_lit m0;have t1:=nb_lit m1;have t2:=nb_lit m2
  have HE:closesB n.data.toList (⟨#[116,104]⟩:ByteArray).data.toList = false:=by
   show decide (n.data.toList = [116,100] \/ n.data.toList = [116,104] \/ n.data.toList = [116,114]) = false
   exact decide_eq_false (by simp only [not_or];exact ⟨m0,m1,m2⟩)
  clear m0 m1 m2;rw [HE];clear HE;go_enter Tryz.func55,Tryz.ntmps55;go_wp2_with fail;go_ret;exact ⟨rfl,rfl⟩
 by_cases h5:o.data.toList = [108,105]
 ·obtain rfl:=ext_lit h5;clear h0 h1 h2 h3 h4 h5
  by_cases m:n.data.toList = [108,105]
  ·obtain rfl:=ext_lit m;clear m;rw [show closesB (⟨#[108,105]⟩:ByteArray).data.toList (⟨#[108,105]⟩:ByteArray).data.toList = true by decide];go_enter Tryz.func55,Tryz.ntmps55;go_wp2_with fail;go_ret;exact ⟨rfl,rfl⟩
  have m0:=m;clear m;have t0:=nb_lit m0
  have HE:closesB n.data.toList (⟨#[108,105]⟩:ByteArray).data.toList = false:=by
   show decide (n.data.toList = [108,105]) = false
   exact decide_eq_false m0
  clear m0;rw [HE];clear HE;go_enter Tryz.func55,Tryz.ntmps55;go_wp2_with fail;go_ret;exact ⟨rfl,rfl⟩
 by_cases h6:o.data.toList = [97]
 ·obtain rfl:=ext_lit h6;clear h0 h1 h2 h3 h4 h5 h6
  by_cases m:n.data.toList = [97]
  ·obtain rfl:=ext_lit m;clear m;rw [show closesB (⟨#[97]⟩:ByteArray).data.toList (⟨#[97]⟩:ByteArray).data.toList = true by decide];go_enter Tryz.func55,Tryz.ntmps55;go_wp2_with fail;go_ret;exact ⟨rfl,rfl⟩
  have m0:=m;clear m;have t0:=nb_lit m0
  have HE:closesB n.data.toList (⟨#[97]⟩:ByteArray).data.toList = false:=by
   show decide (n.data.toList = [97]) = false
   exact decide_eq_false m0
  clear m0;rw [HE];clear HE;go_enter Tryz.func55,Tryz.ntmps55;go_wp2_with fail;go_ret;exact ⟨rfl,rfl⟩
 by_cases h7:o.data.toList = [111,112,116,105,111,110]
 ·obtain rfl:=ext_lit h7;clear h0 h1 h2 h3 h4 h5 h6 h7
  by_cases m:n.data.toList = [111,112,116,105,111,110]
  ·obtain rfl:=ext_lit m;clear m;rw [show closesB (⟨#[111,112,116,105,111,110]⟩:ByteArray).data.toList (⟨#[111,112,116,105,111,110]⟩:ByteArray).data.toList = true by decide];go_enter Tryz.func55,Tryz.ntmps55;go_wp2_with fail;go_ret;exact ⟨rfl,rfl⟩
  have m0:=m;clear m;have t0:=nb_lit m0
  have HE:closesB n.data.toList (⟨#[111,112,116,105,111,110]⟩:ByteArray).data.toList = false:=by
   show decide (n.data.toList = [111,112,116,105,111,110]) = false
   exact decide_eq_false m0
  clear m0;rw [HE];clear HE;go_enter Tryz.func55,Tryz.ntmps55;go_wp2_with fail;go_ret;exact ⟨rfl,rfl⟩
 by_cases h8:o.data.toList = [116,114]
 ·obtain rfl:=ext_lit h8;clear h0 h1 h2 h3 h4 h5 h6 h7 h8
  by_cases m:n.data.toList = [116,114]
  ·obtain rfl:=ext_lit m;clear m;rw [show closesB (⟨#[116,114]⟩:ByteArray).data.toList (⟨#[116,114]⟩:ByteArray).data.toList = true by decide];go_enter Tryz.func55,Tryz.ntmps55;go_wp2_with fail;go_ret;exact ⟨rfl,rfl⟩
  have m0:=m;clear m;have t0:=nb_lit m0
  have HE:closesB n.data.toList (⟨#[116,114]⟩:ByteArray).data.toList = false:=by
   show decide (n.data.toList = [116,114]) = false
   exact decide_eq_false m0
  clear m0;rw [HE];clear HE;go_enter Tryz.func55,Tryz.ntmps55;go_wp2_with fail;go_ret;exact ⟨rfl,rfl⟩
 by_cases h9:o.data.toList = [110,111,98,114]
 ·obtain rfl:=ext_lit h9;clear h0 h1 h2 h3 h4 h5 h6 h7 h8 h9
  by_cases m:n.data.toList = [110,111,98,114]
  ·obtain rfl:=ext_lit m;clear m;rw [show closesB (⟨#[110,111,98,114]⟩:ByteArray).data.toList (⟨#[110,111,98,114]⟩:ByteArray).data.toList = true by decide];go_enter Tryz.func55,Tryz.ntmps55;go_wp2_with fail;go_ret;exact ⟨rfl,rfl⟩
  have m0:=m;clear m;have t0:=nb_lit m0
  have HE:closesB n.data.toList (⟨#[110,111,98,114]⟩:ByteArray).data.toList = false:=by
   show decide (n.data.toList = [110,111,98,114]) = false
   exact decide_eq_false m0
  clear m0;rw [HE];clear HE;go_enter Tryz.func55,Tryz.ntmps55;go_wp2_with fail;go_ret;exact ⟨rfl,rfl⟩
 by_cases h10:o.data.toList = [98,117,116,116,111,110]
 ·obtain rfl:=ext_lit h10;clear h0 h1 h2 h3 h4 h5 h6 h7 h8 h9 h10
  by_cases m:n.data.toList = [98,117,116,116,111,110]
  ·obtain rfl:=ext_lit m;clear m;rw [show closesB (⟨#[98,117,116,116,111,110]⟩:ByteArray).data.toList (⟨#[98,117,116,116,111,110]⟩:ByteArray).data.toList = true by decide];go_enter Tryz.func55,Tryz.ntmps55;go_wp2_with fail;go_ret;exact ⟨rfl,rfl⟩
  have m0:=m;clear m;have t0:=nb_lit m0
  have HE:closesB n.data.toList (⟨#[98,117,116,116,111,110]⟩:ByteArray).data.toList = false:=by
   show decide (n.data.toList = [98,117,116,116,111,110]) = false
   exact decide_eq_false m0
  clear m0;rw [HE];clear HE;go_enter Tryz.func55,Tryz.ntmps55;go_wp2_with fail;go_ret;exact ⟨rfl,rfl⟩
 rw [closes14_pure n.data.toList o.data.toList ⟨h0,h1,h2,h3,h4,h5,h6,h7,h8,h9,h10⟩];have t0:=nb_lit h0;have t1:=nb_lit h1;have t2:=nb_lit h2;have t3:=nb_lit h3;have t4:=nb_lit h4;have t5:=nb_lit h5;have t6:=nb_lit h6;have t7:=nb_lit h7;have t8:=nb_lit h8;have t9:=nb_lit h9;have t10:=nb_lit h10;clear h0 h1 h2 h3 h4 h5 h6 h7 h8 h9 h10;have hh:∀ (s:ByteArray) (bb:Bool),headNB s.data.toList = bb -> Calls Tryz.prog 83 #[.string s] w fun e w'=>e = .returned (.bool bb) /\ w = w':=fun s bb e=>by rw [<- e];exact isHeading_any s w
 cases ho:headNB o.data.toList with
 | false =>
  have HO:=hide (hh o false ho);clear hh ho;go_enter Tryz.func55,Tryz.ntmps55;go_wp2_with fail;refine HO.out.mono ?_;rintro e w1 ⟨rfl,rfl⟩;go_wp2_with fail;go_ret;exact ⟨rfl,rfl⟩
 | true =>
  have HO:=hide (hh o true ho);obtain ⟨bb,hbb⟩:∃ bb,bb = headNB n.data.toList:=⟨_,rfl⟩
  have HN:=hide (hh n bb hbb.symm);rw [<- hbb];clear hh ho hbb;go_enter Tryz.func55,Tryz.ntmps55;go_wp2_with fail;refine HO.out.mono ?_;rintro e w1 ⟨rfl,rfl⟩;go_wp2_with fail;refine HN.out.mono ?_;rintro e w1 ⟨rfl,rfl⟩;go_wp2_with fail;go_ret;exact ⟨rfl,rfl⟩
theorem tok_ne {x y:List UInt8} {X Y:ByteArray} (hX:X = str x) (hY:Y = str y) (h:x ≠ y):(X.toList == Y.toList) = false:=by
 rw [hX,hY,bytes_list,bytes_list,str_toList,str_toList];exact beq_eq_false_iff_ne.2 h
theorem ask_end (bt:Nat) (nm:ByteArray):AskAt 35 bt nm (fun o=>o == nm.data.toList):=by
 intro w1 g o x hn hx;obtain ⟨X,hX⟩:∃ X,X = str x:=⟨_,rfl⟩
 rw [<- hX] at hx
 by_cases he:x = nm.data.toList
 ·have e1:X = nm:=by rw [hX,he,str_of]
  subst e1;have hb:(x == X.data.toList) = true:=beq_iff_eq.2 he;show Calls _ _ _ _ fun e w'=>e = .returned (.bool (x == _)) /\ _
  rw [hb];clear hX he hb;go_enter Tryz.func35,Tryz.ntmps35;go_wp2_with fail;go_quiet (fail);go_wp2_with fail;go_ret;exact ⟨rfl,nq,rfl⟩
 ·have hb:(x == nm.data.toList) = false:=beq_eq_false_iff_ne.2 he;have h1:(X.toList == nm.toList) = false:=tok_ne hX (str_of nm).symm he;show Calls _ _ _ _ fun e w'=>e = .returned (.bool (x == _)) /\ _
  rw [hb];clear hX he hb;go_enter Tryz.func35,Tryz.ntmps35;go_wp2_with fail;go_quiet (fail);go_wp2_with fail;go_ret;exact ⟨rfl,nq,rfl⟩
theorem ask_start (bt:Nat) (nm:ByteArray):AskAt 54 bt nm (closesB nm.data.toList):=by
 intro w1 g o x hn hx;obtain ⟨X,hX⟩:∃ X,X = str x:=⟨_,rfl⟩
 rw [<- hX] at hx;have hxl:X.data.toList = x:=by rw [hX,str_toList]
 have hc:=fun w=>closes14_any nm X w
 rw [hxl] at hc;obtain ⟨bb,hbb⟩:∃ bb,bb = closesB nm.data.toList x:=⟨_,rfl⟩
 rw [<- hbb] at hc ⊢;have HC:=hide (fun w=>(hc w).mono (fun e w' h=>(⟨h.1,0,h.2.symm⟩:e = .returned (.bool bb) /\ ∃ m,w' = w.drewN m)));clear hX hxl hc hbb;go_enter Tryz.func54,Tryz.ntmps54;go_wp2_with fail;go_quiet (first | (go_at_call 55;exact Calls.quiet_of (HC.out _)) | fail);go_wp2_with fail;go_ret;exact ⟨rfl,nq,rfl⟩
theorem BS.onto {C:Nat -> Prop} {B b:Nat} {r:Value} {st:List PartV} {n:Nat} {W0 W1 w:World} (h:BS C B b r st n W1 w) (hb:Below B W0 W1) (hs:Since4 W0 W1):BS C B b r st n W0 w :=
 ⟨h.blk,h.row,h.attrs,h.kids,h.apart,h.tails,h.quiet,h.typ,h.base,hb.trans h.below,h.size,hs.trans h.since⟩
end Go.Proofs.YtmgpmdfmkdhfgaaGreatDoor
