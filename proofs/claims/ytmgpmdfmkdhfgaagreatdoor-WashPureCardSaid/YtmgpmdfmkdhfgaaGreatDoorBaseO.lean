/- More of the first texts of this claim in one: each with its own head. No statement is proved here. -/
import Derived.Test.YtmgpmdfmkdhfgaaGreatDoorBaseN
import Derived.BigRegion
import Derived.Test.YtmgpmdfmkdhfgaaGreatDoorBaseM
import Derived.Lib.AppendStr
import Derived.Laws.OwnMore
import Derived.Deep.LoopGhost
import Derived.IntWalk
import Derived.Laws.ResultCell
import Derived.Test.YtmgpmdfmkdhfgaaGreatDoorShelf
import Derived.Laws.AppendOwnNone
import Derived.Lib.SlTrimSet
import Derived.Shelf.Strings.SlTrimAscii
import Derived.RangeFuncNested
import Derived.RangeFuncBound
import Derived.RangeFuncCalls
import Derived.RangeFuncLeaves
import Derived.RangeFuncBox
import Derived.Shelf.Abstract
import Derived.Shelf.RegionOpen
import Derived.OwnWalkIn
import Derived.TacticsInMore
import Derived.LoopNIn
import Derived.LoopIn
namespace Go.Proofs.YtmgpmdfmkdhfgaaGreatDoor
open Go.RowKit
set_option linter.unusedVariables false
set_option linter.unusedSimpArgs false
set_option maxRecDepth 100000
set_option maxHeartbeats 16000000
def KeptB (b:Nat) (o:Value) (w w':World):Prop:=w.heap.size <= w'.heap.size /\ ∀ k,k < w.heap.size -> k ≠ b -> o.ownBlock ≠ some k -> (∀ cur fr,w.heap[k]? ≠ some (Obj.cells cur 5 fr)) -> w'.heap[k]? = w.heap[k]?
theorem KeptB.attr {b:Nat} {o:Value} {w w':World} {B n:Nat} {u:Value} {xs:List Value} (h:KeptB b o w w') (hr:w.ownsRow B 47 2 u n xs) {bo m:Nat} {ys:List Value} (ho:w.ownsRow bo 71 4 o m ys) {a v p:Value} (hb:RdC w b p a v):w'.ownsRow B 47 2 u n xs:=by
 refine ⟨hr.1,?_⟩;rcases hr.2 with h2 | ⟨g,cap,cur,h1,hg,hh,h3⟩
 ·exact .inl h2
 ·have hlt:g < w.heap.size:=lt_of_block hh;refine .inr ⟨g,cap,cur,h1,hg,(h.2 g hlt ?_ ?_ ?_).trans hh,h3⟩
  ·intro e;have hb':w.heap[b]? = some (.cells #[p,a,v] 101 (0,0)):=hb;rw [<- e,hh] at hb';injection hb' with hb';injection hb' with _ hb';exact absurd hb' (by decide)
  ·exact ownsRow_other ho (fun cur' hc=>by
    rw [hh] at hc;injection hc with hc;injection hc with _ hc;exact absurd hc (by decide))
  ·intro cur' fr hc;rw [hh] at hc;injection hc with hc;injection hc with _ hc;exact absurd hc (by decide)
def EndP (B b:Nat) (o:Value) (vs:List TokV) (x:List UInt8) (W0 w w':World):Prop :=
  ∃ o' vs',Rdr B b o' vs' [] W0 w' /\ vs'.map Prod.fst = flushT (vs.map Prod.fst) x /\ vs'.length <= vs.length + 1 /\ KeptB b o w w'
theorem Rdr.cell {B b:Nat} {o:Value} {vs:List TokV} {x:List UInt8} {W0 w:World} (h:Rdr B b o vs x W0 w):∃ a v,RdC w b o a v:=by
 obtain ⟨⟨a,v,h1,_⟩,_⟩:=h;exact ⟨a,v,h1⟩
theorem tok_row (W:World) (c0 c1 c2 c3:Value):(W.alloc (.cells #[c0,c1,c2,c3] 71)).cell? ((⟨W.heap.size,0,none⟩:Addr).add 0) = some c0 /\ (W.alloc (.cells #[c0,c1,c2,c3] 71)).cell? ((⟨W.heap.size,0,none⟩:Addr).add 1) = some c1 /\
  (W.alloc (.cells #[c0,c1,c2,c3] 71)).cell? ((⟨W.heap.size,0,none⟩:Addr).add 2) = some c2 /\ (W.alloc (.cells #[c0,c1,c2,c3] 71)).cell? ((⟨W.heap.size,0,none⟩:Addr).add 3) = some c3:=by
 refine ⟨?_,?_,?_,?_⟩ <;> exact (World.cell?_alloc_at _ _ _ _ rfl).trans rfl
theorem below_one (w:World) (o:Obj):Below w.heap.size w (w.alloc o):=(Below.refl _ _).alloc (Nat.le_refl _) _
theorem stored {B b:Nat} {o a v:Value} {vs:List TokV} {t:TokL} {u:Value} {W0 w1 w2:World} {ob:Obj} {A:Option Addr} {n c:Nat} (hr:RdC w1 b o a v) (ht:TRow B o vs w1) (hB:B <= b) (hW:Below B W0 w1) (hz:B <= w1.heap.size)
  (h2:TRow B (.slice A n c) (vs ++ [(t,u)]) w2) (hg:(w1.alloc ob).grownBy w2 o.ownBlock):RdC w2 b o a v /\ RdrS B b (.slice A n c) (vs ++ [(t,u)]) W0 (w2.setCell ⟨b,0,none⟩ (.slice A n c)) /\ (∀ k,k < w1.heap.size -> k ≠ b -> o.ownBlock ≠ some k -> (w2.setCell ⟨b,0,none⟩ (.slice A n c)).heap[k]? = w1.heap[k]?) /\ w1.heap.size <= (w2.setCell ⟨b,0,none⟩ (.slice A n c)).heap.size:=by
 have hra:RdC (w1.alloc ob) b o a v:=((below_one w1 ob).block b hr.lt).trans hr
 have hne:o.ownBlock ≠ some b:=ownsRow_other ht.row (fun cur hc=>by
  have h':w1.heap[b]? = some (.cells #[o,a,v] 101 (0,0)):=hr;rw [h'] at hc;injection hc with hc;injection hc with _ hc;exact absurd hc (by decide))
 have hr2:RdC w2 b o a v:=(hg.block b hra.lt (fun e=>hne e.symm)).trans hra;have hWa:Below B W0 (w1.alloc ob):=hW.alloc hz _;have hza:B <= (w1.alloc ob).heap.size:=by rw [World.size_alloc];exact Nat.le_succ_of_le hz
 have hW2:Below B W0 w2:=hWa.grown hg hza (fun k hk=>(ht.row.lt k hk).1);refine ⟨hr2,⟨⟨a,v,hr2.put0 _⟩,h2.rows (RowsK.put hr2 0 _),hB,hW2.setCell (p:=⟨b,0,none⟩) hB _,?_⟩,fun k hk hkb hko=>?_,?_⟩
 ·have:=hg.size;simp [World.setCell];omega
 ·rw [Below.heap_setCell _ _ _ k (fun e=>hkb (by rw [e])),hg.block k (by rw [World.size_alloc];exact Nat.lt_succ_of_lt hk) (fun e=>hko e.symm)];exact (below_one w1 ob).block k hk
 ·have:=hg.size;rw [World.size_alloc] at this;simp [World.setCell];omega
theorem endText_any (B b : Nat) (o : Value) (vs : List TokV) (x : List UInt8) (W0 w : World) (h : Rdr B b o vs x W0 w) (hn : vs.length ≤ 1099511627776) :
    Calls Tryz.prog 52 #[.pointer (some ⟨b, 0, none⟩)] w fun e w' => e = .returned (.tuple #[]) ∧ EndP B b o vs x W0 w w' := by
  have HL := hide (lenR_any B b o vs x W0 w h)
  by_cases hx : x = []
  · subst hx
    have HR : Hid (EndP B b o vs [] W0 w w) := hide ⟨o, vs, h, by unfold flushT; rw [if_pos rfl], Nat.le_succ _, Nat.le_refl _, fun k _ _ _ _ => rfl⟩
    clear h
    go_enter Tryz.func52, Tryz.ntmps52
    go_wp2_with fail
    refine HL.out.mono ?_
    rintro e w1 ⟨rfl, rfl⟩
    go_wp2_with fail
    go_end0
    exact ⟨rfl, HR.out⟩
  · obtain ⟨N, hN⟩ : ∃ N, x.length = N := ⟨_, rfl⟩
    have hN0 : 0 < N := by rw [← hN]; exact List.length_pos_iff.2 hx
    rw [hN] at HL
    have g1 : decide ((0 : Int) < (N : Int)) = true := decide_eq_true (by omega)
    have hd : Rdr B b o vs x W0 w.drew := h.kept ((Below.refl _ _).drew)
    have HST := hide (stringR_any B b o vs x W0 w.drew hd hx)
    obtain ⟨a0, v0, hc⟩ := h.cell
    have c0 := hc.cell0
    obtain ⟨X, hX⟩ : ∃ X, str x = X := ⟨_, rfl⟩
    rw [hX] at HST
    have HX := hide hX
    have HXN := hide hx
    have HH := hide h
    have HN := hide hn
    have HN0 := hide hN0
    have HBS := hide (show B ≤ b from h.base)
    clear h hx hN hd hc hX hn hN0
    go_enter Tryz.func52, Tryz.ntmps52
    go_wp2_with fail
    refine HL.out.mono ?_
    rintro e w0 ⟨rfl, rfl⟩
    go_wp2_with fail
    all_goals first | exact absurd HN0.out ‹_› | skip
    go_region_law (first
      | (refine step_toks rfl _ _ rfl B o vs rfl (charsT x) (.slice none 0 0) ⟨(KT.out.alloc _).row, (KT.out.alloc _).each⟩ (World.ownsRow_nil _ B _ 2) ?_ ⟨w1.heap.size, 0, none⟩ rfl (tok_row _ _ _ _ _).1 (tok_row _ _ _ _ _).2.1 (tok_row _ _ _ _ _).2.2.1 ((tok_row _ _ _ _ _).2.2.2.trans (by rw [← HX.out]; rfl)) (by have := HN.out; omega) ?_
         · rw [World.size_alloc]
           exact Nat.le_succ_of_le KZ.out
         intro v2 w2 ht2 hg2
         obtain ⟨A2, n2, c2, rfl⟩ : ∃ A n c, v2 = .slice A n c := ⟨_, _, _, ht2.slice_len.choose_spec.choose_spec⟩
         obtain ⟨r2, s2, k2, z2⟩ := stored KR.out KT.out HBS.out KW.out KZ.out ht2 hg2
         have f2 := r2.free 0
         have d2 := r2.cell0
         have HS2 := hide s2
         have HK2 := hide k2
         have HZ2 := hide z2
         clear r2 s2 k2 z2 ht2 hg2)
      | (go_simp; go_at_call 71; refine HST.out.mono ?_; rintro e w1 ⟨rfl, hs, hz1, hk1⟩; obtain ⟨⟨a1, v1, hr1⟩, ht1, hB1, hW1, hzz⟩ := hs; have d1 := hr1.cell0; have e1 : ∀ ob, (w1.alloc ob).cell? ⟨b, 0, none⟩ = some o := fun ob => RdC.cell0 (((below_one w1 ob).block b hr1.lt).trans hr1); have KR := hide hr1; have KT := hide ht1; have KW := hide hW1; have KZ := hide hzz; have KZ1 := hide hz1; have KK1 := hide hk1; clear hr1 ht1 hB1 hW1 hzz hz1 hk1))
    all_goals
      try go_wp2_with fail
      refine (resetR_any B b _ _ W0 _ HS2.out).mono ?_
      rintro e w3 ⟨rfl, hr3, hz3, hk3⟩
      have HR3 := hide hr3
      have HZ3 := hide hz3
      have HK3 := hide hk3
      clear hr3 hz3 hk3
      try go_wp2_with fail
      go_end0
      refine ⟨rfl, _, _, HR3.out, ?_, ?_, Nat.le_trans KZ1.out (Nat.le_trans HZ2.out HZ3.out), fun k h1 h2 h3 h4 => ?_⟩
      · unfold flushT
        rw [if_neg HXN.out, List.map_append]
        rfl
      · rw [List.length_append]
        exact Nat.le_refl _
      · exact (HK3.out k h2).trans ((HK2.out k (Nat.lt_of_lt_of_le h1 KZ1.out) h2 h3).trans (KK1.out k h4))
theorem storedX {B b:Nat} {o a v:Value} {vs:List TokV} {t:TokL} {u:Value} {x:List UInt8} {W0 w1 w2:World} {ob:Obj} {A:Option Addr} {n c:Nat} (hr:RdC w1 b o a v) (ht:TRow B o vs w1) (hB:B <= b) (hW:Below B W0 w1) (hz:B <= w1.heap.size)
  (hv:AdrOK b a /\ w1.ownsRow B 5 1 v x.length (cellsOf x) /\ v.ownBlock ≠ some b)
  (h2:TRow B (.slice A n c) (vs ++ [(t,u)]) w2) (hg:(w1.alloc ob).grownBy w2 o.ownBlock):Rdr B b (.slice A n c) (vs ++ [(t,u)]) x W0 (w2.setCell ⟨b,0,none⟩ (.slice A n c)):=by
 obtain ⟨r2,⟨q1,q2,q3,q4,q5⟩,-,-⟩:=stored hr ht hB hW hz h2 hg;refine ⟨⟨a,v,r2.put0 _,hv.1,?_,hv.2.2⟩,q2,q3,q4,q5⟩;have k1:=hv.2.1.kept (row:=none) (World.grownBy_alloc w1 ob none) (by cases hv:v.ownBlock <;> simp);have k2:=k1.kept hg (ownsRow_diff (by decide) k1 (ht.alloc ob).row);exact k2.kept (row:=some b) ⟨rfl,rfl,rfl,by simp [World.setCell],fun k _ hk=>Below.heap_setCell _ _ _ k (fun e=>hk (by rw [e]))⟩ (.inr hv.2.2)
def tokV (t:TokL) (u:Value):Value:=.agg #[.int .i64 (t.kind:Int),.string (str t.name),u,.string (str t.text)]
theorem add_any (B b : Nat) (o : Value) (vs : List TokV) (x : List UInt8) (W0 w : World) (h : Rdr B b o vs x W0 w) (hn : vs.length ≤ 1099511627776) (t : TokL) (u : Value) (hu : w.ownsRow B 47 2 u t.attrs.length (atVals t.attrs)) :
    Calls Tryz.prog 101 #[.pointer (some ⟨b, 0, none⟩), tokV t u] w fun e w' => e = .returned (.tuple #[]) ∧ ∃ o' vs', Rdr B b o' vs' [] W0 w' ∧ vs'.map Prod.fst = flushT (vs.map Prod.fst) x ++ [t] ∧ vs'.length ≤ vs.length + 2 := by
  obtain ⟨A, c, rfl⟩ : ∃ A c, u = .slice A t.attrs.length c := by
    rcases hu.2 with ⟨rfl, h0⟩ | ⟨g, cap, cur, rfl, _⟩
    · rw [h0]; exact ⟨_, _, rfl⟩
    · exact ⟨_, _, rfl⟩
  obtain ⟨bx, hbx⟩ : ∃ bx : Obj, bx = .cells #[.int .i64 (t.kind : Int), .string (str t.name), .slice A t.attrs.length c, .string (str t.text)] 71 := ⟨_, rfl⟩
  have hk := below_one w bx
  have hr := h.kept hk
  have HE := hide (endText_any B b o vs x W0 (w.alloc bx) hr hn)
  obtain ⟨a0, v0, hc0⟩ := hr.cell
  have HU1 : Hid (∀ w', KeptB b o (w.alloc bx) w' → w'.ownsRow B 47 2 (.slice A t.attrs.length c) t.attrs.length (atVals t.attrs)) := hide (fun w' hw => hw.attr (hu.kept (row := none) (World.grownBy_alloc w bx none) (by cases hv : Value.ownBlock (.slice A t.attrs.length c) <;> simp)) hr.toks.row hc0)
  have HBX : Hid (∀ w', KeptB b o (w.alloc bx) w' → w'.heap[w.heap.size]? = some bx) := hide (fun w' hw => by
    have hs : (w.alloc bx).heap[w.heap.size]? = some bx := by show (w.heap.push bx)[w.heap.size]? = some bx; exact Array.getElem?_push_size
    rw [hw.2 w.heap.size (by rw [World.size_alloc]; exact Nat.lt_succ_self _) ?_ ?_ ?_]
    · exact hs
    · intro e
      obtain ⟨a1, v1, h1⟩ := h.cell
      exact absurd h1.lt (by omega)
    · intro e
      exact absurd (h.toks.row.lt _ e).2 (Nat.lt_irrefl _)
    · intro cur fr hh
      rw [hs, hbx] at hh
      injection hh with hh
      injection hh with _ hh
      exact absurd hh (by decide))
  have HBASE := hide h.base
  have HN := hide hn
  clear h hr hc0 hk hu hn
  subst hbx
  unfold tokV
  go_enter Tryz.func101, Tryz.ntmps101
  go_wp2_with fail
  refine HE.out.mono ?_
  rintro e w1 ⟨rfl, o1, vs1, hr1, hm1, hl1, hk1⟩
  have hbx := HBX.out w1 hk1
  have HU := hide (HU1.out w1 hk1)
  obtain ⟨⟨a1, v1, r1, y2, y3, y4⟩, ht1, hB1, hW1, hz1⟩ := hr1
  have d1 := r1.cell0
  have r1d : RdC w1.drew b o1 a1 v1 := r1
  have e1 : ∀ ob, (w1.alloc ob).cell? ⟨b, 0, none⟩ = some o1 := fun ob => RdC.cell0 (((below_one w1 ob).block b r1.lt).trans r1)
  have e2 : ∀ ob, (w1.drew.alloc ob).cell? ⟨b, 0, none⟩ = some o1 := fun ob => RdC.cell0 (((below_one w1.drew ob).block b r1d.lt).trans r1d)
  have t0 : w1.cell? ⟨w.heap.size, 0, none⟩ = some (.int .i64 (t.kind : Int)) := by rw [Lib.cell_of_heap hbx]; rfl
  have t1 : w1.cell? ⟨w.heap.size, 1, none⟩ = some (.string (str t.name)) := by rw [Lib.cell_of_heap hbx]; rfl
  have t2 : w1.cell? ⟨w.heap.size, 2, none⟩ = some (.slice A t.attrs.length c) := by rw [Lib.cell_of_heap hbx]; rfl
  have t3 : w1.cell? ⟨w.heap.size, 3, none⟩ = some (.string (str t.text)) := by rw [Lib.cell_of_heap hbx]; rfl
  have HV := hide (⟨y2, y3, y4⟩ : AdrOK b a1 ∧ w1.drew.ownsRow B 5 1 v1 ([] : List UInt8).length (cellsOf []) ∧ v1.ownBlock ≠ some b)
  have KR := hide r1d
  have KT : Hid (TRow B o1 vs1 w1.drew) := hide ⟨ht1.row, ht1.each⟩
  have KW : Hid (Below B W0 w1.drew) := hide hW1.drew
  have KZ : Hid (B ≤ w1.drew.heap.size) := hide hz1
  have HM := hide hm1
  have HL := hide hl1
  have hud : w1.drew.ownsRow B 47 2 (.slice A t.attrs.length c) t.attrs.length (atVals t.attrs) := HU.out
  have HUA := hide (fun ob => hud.kept (row := none) (World.grownBy_alloc w1.drew ob none) (by cases hv : Value.ownBlock (.slice A t.attrs.length c) <;> simp))
  clear hud r1 r1d y2 y3 y4 ht1 hB1 hW1 hz1 hm1 hl1 hk1 hbx
  go_wp2_with fail
  go_region_law (first
    | (refine step_toks rfl _ _ rfl B o1 vs1 rfl t (.slice A t.attrs.length c) ⟨(KT.out.alloc _).row, (KT.out.alloc _).each⟩ (HUA.out _) ?_ ⟨w1.heap.size, 0, none⟩ rfl (tok_row _ _ _ _ _).1 (tok_row _ _ _ _ _).2.1 (tok_row _ _ _ _ _).2.2.1 (tok_row _ _ _ _ _).2.2.2 (by have := HN.out; have := HL.out; omega) ?_
       · show B ≤ (w1.drew.alloc _).heap.size
         rw [World.size_alloc]
         exact Nat.le_succ_of_le KZ.out
       intro v2 w2 ht2 hg2
       obtain ⟨A2, n2, c2, rfl⟩ : ∃ A n c, v2 = .slice A n c := ⟨_, _, _, ht2.slice_len.choose_spec.choose_spec⟩
       have s2 := storedX KR.out KT.out HBASE.out KW.out KZ.out HV.out ht2 hg2
       have r2 := (stored KR.out KT.out HBASE.out KW.out KZ.out ht2 hg2).1
       have f2 := r2.free 0
       have d2 := r2.cell0
       have HS2 := hide s2
       clear r2 s2 ht2 hg2)
    | fail)
  all_goals
    try go_wp2_with fail
    go_end0
    refine ⟨rfl, _, _, HS2.out, ?_, ?_⟩
    · rw [List.map_append, HM.out]
      rfl
    · rw [List.length_append]
      have := HL.out
      exact Nat.succ_le_succ this
def zeroKid:KidV:=((⟨[],[],[]⟩,.nil),(.slice none 0 0,.slice none 0 0))
theorem info_nd14:(Tryz.prog.info? 36).map (fun i=>(i.zero,i.size,i.bytes)) = some (some (.agg #[.string ByteArray.empty,.slice none 0 0,.string ByteArray.empty,.slice none 0 0]),4,80):=by kernel_rfl
theorem step_node0 {ops:Array Oper} {o:Oper} {a:Act} {w:World} {K:Act -> World -> Prop} {Q:Exit -> Act -> World -> Prop} {E:Prop} (hgd:o.guard = none) (s x:Operand)
  (ho:o.op = .call { callee:=.builtin .append,args:=#[s,x],argTypes:=#[25,25] })
  (B:Nat) (v:Value) (ks:List KidV) (hs:a.eval s = v) (hb:w.ownsRow B 36 4 v ks.length (nodeVals ks)) (hB:B <= w.heap.size) (ad:Addr)
  (hx:a.eval x = .slice (some ad) 1 1) (h0:w.cell? (ad.add 0) = some (.string ⟨#[]⟩)) (h1:w.cell? (ad.add 1) = some (.slice none 0 0)) (h2:w.cell? (ad.add 2) = some (.string ⟨#[]⟩)) (h3:w.cell? (ad.add 3) = some (.slice none 0 0))
  (hlen:ks.length + 1 <= 1073741824)
  (h:∀ g' cap' w',w'.ownsRow B 36 4 (.slice (some ⟨g',0,none⟩) (ks.length + 1) cap') (ks.length + 1) (nodeVals (ks ++ [zeroKid])) -> w.grownBy w' v.ownBlock -> (some g' = v.ownBlock \/ g' = w.heap.size) -> ks.length + 1 <= cap' -> cap' <= maxLen ->
   K (a.put o.dst (.slice (some ⟨g',0,none⟩) (ks.length + 1) cap')) w') :
  if Region.wanted o (yielded ops a.tmps) = true then Oper.wp Tryz.prog o a w K Q else E:=by
 have hw:Region.wanted o (yielded ops a.tmps) = true:=by simp [Region.wanted,hgd]
 rw [if_pos hw];obtain ⟨i0,hi,hz0,hz1,hz2⟩:=info_parts info_nd14;refine wp_append_own2 _ s x 25 ho B 36 i0 (.agg #[.string ByteArray.empty,.slice none 0 0,.string ByteArray.empty,.slice none 0 0]) 4 80 Tryz.underlying25 hi hz0 hz1 hz2 rfl (by decide) v ks.length (nodeVals ks) hs hb ad 1 1 (nodeVals [zeroKid]) hx rfl ?_ ?_ (by unfold maxLen;omega) (by omega) hB ?_
 ·intro j u hj
  match j,hj with
  | 0,hj=>simp [nodeVals,zeroKid] at hj;subst hj;exact h0
  | 1,hj=>simp [nodeVals,zeroKid] at hj;subst hj;exact h1
  | 2,hj=>simp [nodeVals,zeroKid] at hj;subst hj;exact h2
  | 3,hj=>simp [nodeVals,zeroKid] at hj;subst hj;exact h3
  | (j + 4),hj=>simp [nodeVals,zeroKid] at hj
 ·intro u hu;simp [nodeVals,zeroKid] at hu;rcases hu with rfl | rfl | rfl | rfl <;> rfl
 ·intro v' w' ho' hg hor;rcases ho'.2 with ⟨_,h0⟩ | ⟨g',cap',cur,rfl,_,hh,c1,c2,_⟩
  ·cases h0
  ·refine h g' cap' w' (by rw [nodeVals_append];exact ho') hg ?_ c1 c2;rcases hor with e | e
   ·exact .inl e
   ·exact .inr (by simpa [Value.ownBlock] using e)
theorem node_stored {w:World} {B g cap:Nat} {ks:List KidV} (h:w.ownsRow B 36 4 (.slice (some ⟨g,0,none⟩) (ks.length + 1) cap) (ks.length + 1) (nodeVals (ks ++ [zeroKid]))) (q:KidV) :
  (((((w.setCell ⟨g,ks.length * 4,none⟩ (.string (str q.1.1.name))).setCell ⟨g,ks.length * 4 + 1,none⟩ q.2.1).setCell ⟨g,ks.length * 4 + 2,none⟩ (.string (str q.1.1.text))).setCell ⟨g,ks.length * 4 + 3,none⟩ q.2.2)).ownsRow B 36 4 (.slice (some ⟨g,0,none⟩) (ks.length + 1) cap) (ks.length + 1) (nodeVals (ks ++ [q])) /\
  (∀ k,k ≠ g -> ((((w.setCell ⟨g,ks.length * 4,none⟩ (.string (str q.1.1.name))).setCell ⟨g,ks.length * 4 + 1,none⟩ q.2.1).setCell ⟨g,ks.length * 4 + 2,none⟩ (.string (str q.1.1.text))).setCell ⟨g,ks.length * 4 + 3,none⟩ q.2.2).heap[k]? = w.heap[k]?):=by
 obtain ⟨a1,b1⟩:=h.stored (ks.length * 4) (.string (str q.1.1.name));obtain ⟨a2,b2⟩:=a1.stored (ks.length * 4 + 1) q.2.1;obtain ⟨a3,b3⟩:=a2.stored (ks.length * 4 + 2) (.string (str q.1.1.text));obtain ⟨a4,b4⟩:=a3.stored (ks.length * 4 + 3) q.2.2;refine ⟨?_,fun k hk=>?_⟩
 ·have e:((((nodeVals (ks ++ [zeroKid])).set (ks.length * 4) (.string (str q.1.1.name))).set (ks.length * 4 + 1) q.2.1).set (ks.length * 4 + 2) (.string (str q.1.1.text))).set (ks.length * 4 + 3) q.2.2 = nodeVals (ks ++ [q]):=by
   have hs:∀ (j:Nat) (zs:List Value) (u:Value),(nodeVals ks ++ zs).set (ks.length * 4 + j) u = nodeVals ks ++ zs.set j u:=fun j zs u=>by
    rw [List.set_append_right _ _ (by rw [nodeVals_length];omega),nodeVals_length,show ks.length * 4 + j - ks.length * 4 = j by omega]
   have h0:=hs 0;rw [Nat.add_zero] at h0;rw [nodeVals_append,nodeVals_append,h0,hs,hs,hs];rfl
  rw [e] at a4;exact a4
 ·have hne:∀ (W:World) (i:Nat) (u:Value),(W.setCell ⟨g,i,none⟩ u).heap[k]? = W.heap[k]?:=fun W i u=>Below.heap_setCell W ⟨g,i,none⟩ u k hk
  rw [hne,hne,hne,hne]
theorem node_row (W:World) (c0 c1 c2 c3:Value):(W.alloc (.cells #[c0,c1,c2,c3] 36)).cell? ((⟨W.heap.size,0,none⟩:Addr).add 0) = some c0 /\ (W.alloc (.cells #[c0,c1,c2,c3] 36)).cell? ((⟨W.heap.size,0,none⟩:Addr).add 1) = some c1 /\ (W.alloc (.cells #[c0,c1,c2,c3] 36)).cell? ((⟨W.heap.size,0,none⟩:Addr).add 2) = some c2 /\ (W.alloc (.cells #[c0,c1,c2,c3] 36)).cell? ((⟨W.heap.size,0,none⟩:Addr).add 3) = some c3:=by
 have h:(W.alloc (.cells #[c0,c1,c2,c3] 36)).heap[W.heap.size]? = some (.cells #[c0,c1,c2,c3] 36 (0,0)):=by
  show (W.heap.push _)[W.heap.size]? = _
  exact Array.getElem?_push_size
 exact ⟨by rw [Addr.add_lit,Lib.cell_of_heap h];rfl,by rw [Addr.add_lit,Lib.cell_of_heap h];rfl,by rw [Addr.add_lit,Lib.cell_of_heap h];rfl,by rw [Addr.add_lit,Lib.cell_of_heap h];rfl⟩
theorem app_facts {C:Nat -> Prop} {B b g cap:Nat} {p:PartV} {rest:List PartV} {n:Nat} {W0 W:World} (h:BS C B b (.slice (some ⟨g,0,none⟩) (rest.length + 1) cap) (p :: rest) n W0 W) {g' cap':Nat} {w2:World}
  (ho:w2.ownsRow B 36 4 (.slice (some ⟨g',0,none⟩) (p.kids.length + 1) cap') (p.kids.length + 1) (nodeVals (p.kids ++ [zeroKid]))) (hg:W.grownBy w2 p.kv.ownBlock) (hor:some g' = p.kv.ownBlock \/ g' = W.heap.size) :
  g' ≠ g /\ (∀ i,w2.frozen? ⟨g',i,none⟩ = false) /\ (w2.cell? ⟨g',p.kids.length * 4,none⟩ = some (.string ⟨#[]⟩) /\ w2.cell? ⟨g',p.kids.length * 4 + 1,none⟩ = some (.slice none 0 0) /\ w2.cell? ⟨g',p.kids.length * 4 + 2,none⟩ = some (.string ⟨#[]⟩) /\ w2.cell? ⟨g',p.kids.length * 4 + 3,none⟩ = some (.slice none 0 0)) /\
  (∀ i,w2.frozen? ⟨g,i,none⟩ = false) /\ (∀ i,w2.cell? ⟨g,i,none⟩ = W.cell? ⟨g,i,none⟩):=by
 have hk:=(h.kids p (List.mem_cons_self ..)).row;obtain ⟨q1,q2,q3,q4⟩:=h.rowOut
 have hlt:g < W.heap.size:=by
  obtain ⟨g0,c0,e,_,_,_,hl⟩:=h.form (by simp);injection e with e _ _;injection e with e;injection e with e;rw [e];exact hl
 have hnk:p.kv.ownBlock ≠ some g:=ownsRow_other hk (fun cur=>q4 cur _ (by decide));have hgg:w2.heap[g]? = W.heap[g]?:=hg.block g hlt (fun e=>hnk e.symm)
 have hc:∀ j,j < 4 -> w2.cell? ⟨g',p.kids.length * 4 + j,none⟩ = [Value.string ⟨#[]⟩,.slice none 0 0,.string ⟨#[]⟩,.slice none 0 0][j]?:=fun j hj=>by
  rw [ho.cellAt _ (by omega),nodeVals_append,List.getElem?_append_right (by rw [nodeVals_length];omega),nodeVals_length,show p.kids.length * 4 + j - p.kids.length * 4 = j by omega];rfl
 refine ⟨fun e=>?_,fun i=>ho.frozenAt i,⟨hc 0 (by decide),hc 1 (by decide),hc 2 (by decide),hc 3 (by decide)⟩,fun i=>?_,fun i=>World.cell?_of_block hgg⟩
 ·rcases hor with e1 | e1
  ·exact hnk (by rw [<- e1,e])
  ·omega
 ·rw [World.frozen?_of_block (a:=⟨g,i,none⟩) hgg];exact h.cells.2.2.2.2.2 i
theorem BS.kidWritten {C:Nat -> Prop} {B b g cap:Nat} {p:PartV} {rest:List PartV} {n:Nat} {W0 W:World} (h:BS C B b (.slice (some ⟨g,0,none⟩) (rest.length + 1) cap) (p :: rest) n W0 W) {g' cap':Nat} {w2:World} {q:KidV}
  (ho:w2.ownsRow B 36 4 (.slice (some ⟨g',0,none⟩) (p.kids.length + 1) cap') (p.kids.length + 1) (nodeVals (p.kids ++ [zeroKid]))) (hg:W.grownBy w2 p.kv.ownBlock) (hor:some g' = p.kv.ownBlock \/ g' = W.heap.size)
  (hq:AttrsC C W q.2.1 q.1.1.attrs /\ NodesC C W q.2.2 q.1.2) :
  BS C B b (.slice (some ⟨g,0,none⟩) (rest.length + 1) cap) ({ p with kids:=p.kids ++ [q],kv:=.slice (some ⟨g',0,none⟩) (p.kids.length + 1) cap' } :: rest) n W0
   (((((w2.setCell ⟨g',p.kids.length * 4,none⟩ (.string (str q.1.1.name))).setCell ⟨g',p.kids.length * 4 + 1,none⟩ q.2.1).setCell ⟨g',p.kids.length * 4 + 2,none⟩ (.string (str q.1.1.text))).setCell ⟨g',p.kids.length * 4 + 3,none⟩ q.2.2).setCell ⟨g,rest.length * 5 + 3,none⟩ (.slice (some ⟨g',0,none⟩) (p.kids.length + 1) cap')):=by
 obtain ⟨s1,s2⟩:=node_stored ho q
 refine h.pushKid s1 ⟨hg.os,hg.tape,hg.output,by have:=hg.size;simpa [World.setCell] using this,fun k hk hne=>?_⟩ (by
  rcases hor with e | e
  ·exact .inl e
  ·exact .inr (by rw [<- e];rfl)) hq
 rw [s2 k ?_]
 ·exact hg.block k hk hne
 ·rintro rfl;rcases hor with e | e
  ·exact hne e
  ·omega
theorem setCell_comm (w:World) (a b:Addr) (u v:Value) (h:a.block ≠ b.block):(w.setCell a u).setCell b v = (w.setCell b v).setCell a u:=by
 unfold World.setCell
 congr 1
 apply Array.ext_getElem?;intro i;simp only [Array.getElem?_modify]
 by_cases h1:b.block = i
 ·have h2:¬ a.block = i:=fun e=>h (e.trans h1.symm)
  simp [h1,h2]
 ·simp [h1]
theorem kid_comm (w:World) {g g':Nat} (h:g ≠ g') (i j0 j1 j2 j3:Nat) (r v0 v1 v2 v3:Value) :
  (((((w.setCell ⟨g,i,none⟩ r).setCell ⟨g',j0,none⟩ v0).setCell ⟨g',j1,none⟩ v1).setCell ⟨g',j2,none⟩ v2).setCell ⟨g',j3,none⟩ v3) = (((((w.setCell ⟨g',j0,none⟩ v0).setCell ⟨g',j1,none⟩ v1).setCell ⟨g',j2,none⟩ v2).setCell ⟨g',j3,none⟩ v3).setCell ⟨g,i,none⟩ r):=by
 rw [setCell_comm w ⟨g,i,none⟩ ⟨g',j0,none⟩ r v0 h,setCell_comm _ ⟨g,i,none⟩ ⟨g',j1,none⟩ r v1 h,setCell_comm _ ⟨g,i,none⟩ ⟨g',j2,none⟩ r v2 h,setCell_comm _ ⟨g,i,none⟩ ⟨g',j3,none⟩ r v3 h]
theorem BS.noTail {C:Nat -> Prop} {B b g cap:Nat} {p:PartV} {rest:List PartV} {n:Nat} {W0 w:World} (h:BS C B b (.slice (some ⟨g,0,none⟩) (rest.length + 1) cap) (p :: rest) n W0 w) :
  BS C B b (.slice (some ⟨g,0,none⟩) (rest.length + 1) cap) ({ p with tail:=[],tv:=.slice none 0 0 } :: rest) n W0 (w.setCell ⟨g,rest.length * 5 + 4,none⟩ (.slice none 0 0)):=by
 have hk:=h.kids _ (List.mem_cons_self ..);exact h.putP { p with tail:=[],tv:=.slice none 0 0 } 4 (.slice none 0 0) (by decide) rfl rfl rfl hk ((List.pairwise_cons.1 h.apart).1) ⟨World.ownsRow_nil _ B _ 1,fun _=>rfl⟩
theorem BS.moreTail {C:Nat -> Prop} {B b g cap:Nat} {p:PartV} {rest:List PartV} {n:Nat} {W0 w w2:World} {tv':Value} {tl':List UInt8} (h:BS C B b (.slice (some ⟨g,0,none⟩) (rest.length + 1) cap) (p :: rest) n W0 w)
  (ho:w2.ownsRow B 5 1 tv' tl'.length (cellsOf tl')) (hg:w.grownBy w2 p.tv.ownBlock) (hn:tl' = [] -> tv' = .slice none 0 0) :
  BS C B b (.slice (some ⟨g,0,none⟩) (rest.length + 1) cap) ({ p with tail:=tl',tv:=tv' } :: rest) n W0 (w2.setCell ⟨g,rest.length * 5 + 4,none⟩ tv'):=by
 have ht:=h.tails p (List.mem_cons_self ..);have hrest:∀ q ∈ rest,q.tv = .slice none 0 0:=fun q hq=>(h.tails q (List.mem_cons_of_mem _ hq)).2 (h.quiet q hq)
 have hC:∀ k,C k -> k < w.heap.size:=fun k hk=>(h.typ k hk).1
 have htC:∀ k,p.tv.ownBlock = some k -> ¬ C k:=fun k e hc=>by
  rcases ht.1.2 with ⟨e0,_⟩ | ⟨g0,c0,cur,e0,_,hh,_⟩
  ·rw [e0] at e;cases e
  ·rw [e0] at e;obtain rfl:g0 = k:=by simpa [Value.ownBlock] using e
   rcases (h.typ g0 hc).2 _ _ _ hh with e | e
   ·exact absurd e (by decide)
   ·exact absurd e (by decide)
 have hk:∀ x,C x -> w2.heap[x]? = w.heap[x]?:=fun x hx=>hg.block x (hC x hx) (fun e=>htC x e.symm hx)
 have hown:∀ {e:TypeId} {sz m:Nat} {v:Value} {xs:List Value},e ≠ 5 -> w.ownsRow B e sz v m xs -> w2.ownsRow B e sz v m xs:=fun {e sz m v xs} h1 hx=>hx.kept hg (ownsRow_diff h1 hx ht.1)
 have hblk:w2.heap[b]? = some (.cells #[.slice (some ⟨g,0,none⟩) (rest.length + 1) cap,.int .i64 n] 67 (0,0)):=by
  rw [hg.block b (lt_of_block h.blk) (fun e=>(ownsRow_other ht.1 (r:=b) (fun cur hb=>h.out.2 cur _ (by decide) hb)) e.symm)];exact h.blk
 have hrow:=hown (by decide) h.row;have hK:∀ x ∈ p :: rest,KRow C B x.kv x.kids w2:=fun x hx=>⟨hown (by decide) (h.kids x hx).row,fun y hy=>⟨((h.kids x hx).each y hy).1.mono hk (fun _ x=>x),((h.kids x hx).each y hy).2.mono hk (fun _ x=>x)⟩,(h.kids x hx).out⟩
 obtain ⟨r1,hgp⟩:=(show w2.ownsRow B 77 5 (.slice (some ⟨g,0,none⟩) (rest.length + 1) cap) (rest.length + 1) (partVals (p :: rest).reverse) from hrow).stored (rest.length * 5 + 4) tv'
 have q4:∀ (cur:Array Value) (e:TypeId),e ≠ 77 -> w2.heap[g]? ≠ some (Obj.cells cur e (0,0)):=fun cur e h1 hx=>by
  rcases hrow.2 with ⟨h0,_⟩ | ⟨g',cap',cur',h0,_,hh,_⟩
  ·cases h0
  ·injection h0 with h0 _ _;injection h0 with h0;injection h0 with h0;subst h0;rw [hh] at hx;injection hx with hx;injection hx with _ hx;exact h1 hx.symm
 obtain ⟨q1,q2,q3,_⟩:=h.rowOut;have hown4:∀ {e:TypeId} {sz m:Nat} {v:Value} {xs:List Value},e ≠ 77 -> w2.ownsRow B e sz v m xs -> (w2.setCell ⟨g,rest.length * 5 + 4,none⟩ tv').ownsRow B e sz v m xs:=fun {e sz m v xs} h1 hx=>own_type hx hgp (fun cur=>q4 cur e h1)
 have hk4:=same_put (w:=w2) (i:=rest.length * 5 + 4) (u:=tv') q2;have hk5:∀ x,C x -> (w2.setCell ⟨g,rest.length * 5 + 4,none⟩ tv').heap[x]? = w.heap[x]?:=fun x hx=>(hk4 x hx).trans (hk x hx)
 have hrm:∀ x ∈ rest,x ∈ p :: rest:=fun x hx=>List.mem_cons_of_mem _ hx
 refine ⟨?_,?_,?_,?_,?_,?_,h.quiet,fun x hx=>⟨by have:=Nat.lt_of_lt_of_le (hC x hx) hg.size;simpa [World.setCell] using this,by rw [hk5 x hx];exact (h.typ x hx).2⟩,h.base,(h.below.grown hg h.size (fun k e=>(ht.1.lt k e).1)).setCell (p:=⟨g,rest.length * 5 + 4,none⟩) q3 tv',by have:=Nat.le_trans h.size hg.size;simpa [World.setCell] using this,(h.since.own ht.1 hg (.inr (.inr (.inr rfl)))).own hrow hgp (.inr (.inl rfl))⟩
 ·rw [hgp.block b (lt_of_block hblk) (fun e=>q1 (Option.some.inj e).symm)];exact hblk
 ·rw [List.reverse_cons] at r1 ⊢;have e1:=partVals_set rest.reverse p 4 (by decide) tv';rw [List.length_reverse] at e1;rw [e1] at r1;rw [partVals_append];exact r1
 ·intro x hx;rcases List.mem_cons.1 hx with rfl | hx
  ·exact (h.attrs p (List.mem_cons_self ..)).mono hk5 (fun _ x=>x)
  ·exact (h.attrs x (hrm x hx)).mono hk5 (fun _ x=>x)
 ·intro x hx;have hx2:∀ y:PartV,KRow C B y.kv y.kids w2 -> KRow C B y.kv y.kids (w2.setCell ⟨g,rest.length * 5 + 4,none⟩ tv'):=fun y hy=>⟨hown4 (by decide) hy.row,fun z hz=>⟨(hy.each z hz).1.mono hk4 (fun _ x=>x),(hy.each z hz).2.mono hk4 (fun _ x=>x)⟩,hy.out⟩
  rcases List.mem_cons.1 hx with rfl | hx
  ·exact hx2 p (hK p (List.mem_cons_self ..))
  ·exact hx2 x (hK x (hrm x hx))
 ·exact List.pairwise_cons.2 ⟨(List.pairwise_cons.1 h.apart).1,(List.pairwise_cons.1 h.apart).2⟩
 ·intro x hx;rcases List.mem_cons.1 hx with rfl | hx
  ·exact ⟨hown4 (by decide) ho,hn⟩
  ·rw [hrest x hx,h.quiet x hx];exact ⟨World.ownsRow_nil _ B _ 1,fun _=>rfl⟩
theorem grown_refl (w:World):w.grownBy w none:=grown_none (Below.refl _ _)
theorem wash_facts {C:Nat -> Prop} {X:List KidV} {B g cap:Nat} {p:PartW} {rest:List PartW} {W0 W:World} (h:WS C B X (.slice (some ⟨g,0,none⟩) (rest.length + 1) cap) (p :: rest) W0 W) {g' cap':Nat} {w2:World}
  (ho:w2.ownsRow B 36 4 (.slice (some ⟨g',0,none⟩) (p.kids.length + 1) cap') (p.kids.length + 1) (nodeVals (p.kids ++ [zeroKid]))) (hg:W.grownBy w2 p.kv.ownBlock) (hor:some g' = p.kv.ownBlock \/ g' = W.heap.size) :
  g' ≠ g /\ (∀ i,w2.frozen? ⟨g',i,none⟩ = false) /\ (w2.cell? ⟨g',p.kids.length * 4,none⟩ = some (.string ⟨#[]⟩) /\ w2.cell? ⟨g',p.kids.length * 4 + 1,none⟩ = some (.slice none 0 0) /\ w2.cell? ⟨g',p.kids.length * 4 + 2,none⟩ = some (.string ⟨#[]⟩) /\ w2.cell? ⟨g',p.kids.length * 4 + 3,none⟩ = some (.slice none 0 0)) /\
  (∀ i,w2.frozen? ⟨g,i,none⟩ = false) /\ (∀ i,w2.cell? ⟨g,i,none⟩ = W.cell? ⟨g,i,none⟩):=by
 have hk:=(h.ps.kids p (List.mem_cons_self ..)).row;obtain ⟨q2,q3,q4⟩:=h.out
 have hlt:g < W.heap.size:=by
  obtain ⟨g0,c0,e,_,_,_,hl⟩:=h.form (by simp);injection e with e _ _;injection e with e;injection e with e;rw [e];exact hl
 have hnk:p.kv.ownBlock ≠ some g:=ownsRow_other hk (fun cur=>q4 cur _ (by decide));have hgg:w2.heap[g]? = W.heap[g]?:=hg.block g hlt (fun e=>hnk e.symm)
 have hc:∀ j,j < 4 -> w2.cell? ⟨g',p.kids.length * 4 + j,none⟩ = [Value.string ⟨#[]⟩,.slice none 0 0,.string ⟨#[]⟩,.slice none 0 0][j]?:=fun j hj=>by
  rw [ho.cellAt _ (by omega),nodeVals_append,List.getElem?_append_right (by rw [nodeVals_length];omega),nodeVals_length,show p.kids.length * 4 + j - p.kids.length * 4 = j by omega];rfl
 refine ⟨fun e=>?_,fun i=>ho.frozenAt i,⟨hc 0 (by decide),hc 1 (by decide),hc 2 (by decide),hc 3 (by decide)⟩,fun i=>?_,fun i=>World.cell?_of_block hgg⟩
 ·rcases hor with e1 | e1
  ·exact hnk (by rw [<- e1,e])
  ·omega
 ·rw [World.frozen?_of_block (a:=⟨g,i,none⟩) hgg];exact h.cells.2.2.2.2.2.2 i
theorem WS.kidWritten {C:Nat -> Prop} {X:List KidV} {B g cap:Nat} {p:PartW} {rest:List PartW} {W0 W:World} (h:WS C B X (.slice (some ⟨g,0,none⟩) (rest.length + 1) cap) (p :: rest) W0 W) {g' cap':Nat} {w2:World} {q:KidV}
  (ho:w2.ownsRow B 36 4 (.slice (some ⟨g',0,none⟩) (p.kids.length + 1) cap') (p.kids.length + 1) (nodeVals (p.kids ++ [zeroKid]))) (hg:W.grownBy w2 p.kv.ownBlock) (hor:some g' = p.kv.ownBlock \/ g' = W.heap.size)
  (hq:AttrsC C W q.2.1 q.1.1.attrs /\ NodesC C W q.2.2 q.1.2) :
  WS C B X (.slice (some ⟨g,0,none⟩) (rest.length + 1) cap) ({ p with kids:=p.kids ++ [q],kv:=.slice (some ⟨g',0,none⟩) (p.kids.length + 1) cap' } :: rest) W0
   (((((w2.setCell ⟨g',p.kids.length * 4,none⟩ (.string (str q.1.1.name))).setCell ⟨g',p.kids.length * 4 + 1,none⟩ q.2.1).setCell ⟨g',p.kids.length * 4 + 2,none⟩ (.string (str q.1.1.text))).setCell ⟨g',p.kids.length * 4 + 3,none⟩ q.2.2).setCell ⟨g,rest.length * 6 + 3,none⟩ (.slice (some ⟨g',0,none⟩) (p.kids.length + 1) cap')):=by
 obtain ⟨s1,s2⟩:=node_stored ho q;have hp:=List.mem_cons_self (a:=p) (l:=rest);have hkp:=h.ps.kids p hp;obtain ⟨w3,hw3⟩:∃ w3,w3 = (((w2.setCell ⟨g',p.kids.length * 4,none⟩ (.string (str q.1.1.name))).setCell ⟨g',p.kids.length * 4 + 1,none⟩ q.2.1).setCell ⟨g',p.kids.length * 4 + 2,none⟩ (.string (str q.1.1.text))).setCell ⟨g',p.kids.length * 4 + 3,none⟩ q.2.2:=⟨_,rfl⟩
 have hz:w3.heap.size = w2.heap.size:=by rw [hw3];simp [World.setCell]
 have hg3:W.grownBy w3 p.kv.ownBlock:=by
  refine ⟨by rw [hw3];exact hg.os,by rw [hw3];exact hg.tape,by rw [hw3];exact hg.output,by rw [hz];exact hg.size,fun k hk hne=>?_⟩;rw [hw3,s2 k ?_]
  ·exact hg.block k hk hne
  ·rintro rfl;rcases hor with e | e
   ·exact hne e
   ·omega
 rw [<- hw3] at s1 ⊢;have hCk:∀ x,C x -> w3.heap[x]? = W.heap[x]?:=fun x hx=>hg3.block x (h.ps.typ x hx).2.1 (fun e=>hkp.out x e.symm hx)
 refine h.step hg3 { p with kids:=p.kids ++ [q],kv:=.slice (some ⟨g',0,none⟩) (p.kids.length + 1) cap' } 3 _ (by decide) rfl (fun k e=>.inl e) rfl rfl ⟨?_,fun y hy=>?_,fun x e=>?_⟩
  ((h.ps.tails p hp).kept hg3 (ownsRow_diff (by decide) (h.ps.tails p hp) hkp.row)) ((h.ps.lefts p hp).kept hg3 (ownsRow_diff (by decide) (h.ps.lefts p hp) hkp.row)) (h.ps.ins p hp) ?_ (.inl rfl) (.inl rfl)
 ·show w3.ownsRow B _ 4 _ (p.kids ++ [q]).length _
  rw [List.length_append];exact s1
 ·rcases List.mem_append.1 hy with hy | hy
  ·exact ⟨(hkp.each y hy).1.mono hCk (fun _ x=>x),(hkp.each y hy).2.mono hCk (fun _ x=>x)⟩
  ·obtain rfl:=List.mem_singleton.1 hy;exact ⟨hq.1.mono hCk (fun _ x=>x),hq.2.mono hCk (fun _ x=>x)⟩
 ·obtain rfl:g' = x:=by simpa [Value.ownBlock] using e
  intro hC;rcases hor with e | e
  ·exact hkp.out _ e.symm hC
  ·have:=(h.ps.typ _ hC).2.1;omega
 ·rcases hor with e | e
  ·exact .inl e
  ·exact .inr ⟨g',rfl,by omega⟩
theorem WS.noTail {C:Nat -> Prop} {X:List KidV} {B g cap:Nat} {p:PartW} {rest:List PartW} {W0 w:World} (h:WS C B X (.slice (some ⟨g,0,none⟩) (rest.length + 1) cap) (p :: rest) W0 w) :
  WS C B X (.slice (some ⟨g,0,none⟩) (rest.length + 1) cap) ({ p with tail:=[],tv:=.slice none 0 0 } :: rest) W0 (w.setCell ⟨g,rest.length * 6 + 4,none⟩ (.slice none 0 0)):=by
 have hp:=List.mem_cons_self (a:=p) (l:=rest);exact h.step (grown_refl w) { p with tail:=[],tv:=.slice none 0 0 } 4 _ (by decide) rfl (fun k e=>by cases e) rfl rfl (h.ps.kids p hp) (World.ownsRow_nil _ _ _ 1) (h.ps.lefts p hp) (h.ps.ins p hp) (.inl rfl) (.inr (.inl rfl)) (.inl rfl)
theorem WS.longTail {C:Nat -> Prop} {X:List KidV} {B g cap:Nat} {p:PartW} {rest:List PartW} {W0 w w3:World} {v':Value} {t:List UInt8} (h:WS C B X (.slice (some ⟨g,0,none⟩) (rest.length + 1) cap) (p :: rest) W0 w)
  (ho:w3.ownsRow B 5 1 v' (p.tail ++ t).length (cellsOf (p.tail ++ t))) (hg:w.grownBy w3 p.tv.ownBlock) (hv:v'.ownBlock = p.tv.ownBlock \/ v'.ownBlock = some w.heap.size) :
  WS C B X (.slice (some ⟨g,0,none⟩) (rest.length + 1) cap) ({ p with tail:=p.tail ++ t,tv:=v' } :: rest) W0 (w3.setCell ⟨g,rest.length * 6 + 4,none⟩ v'):=by
 have hp:=List.mem_cons_self (a:=p) (l:=rest);have htp:=h.ps.tails p hp;have hkp:=h.ps.kids p hp
 have hCk:∀ x,C x -> w3.heap[x]? = w.heap[x]?:=fun x hx=>hg.block x (h.ps.typ x hx).2.1 (fun e=>by
  have:=ownsRow_other htp (r:=x) (fun cur hh=>by
   rcases (h.ps.typ x hx).2.2 _ _ _ hh with e1 | e1 <;> exact absurd e1 (by decide))
  exact this e.symm)
 refine h.step hg { p with tail:=p.tail ++ t,tv:=v' } 4 _ (by decide) rfl (fun k e=>.inr (.inl e)) rfl rfl
  ⟨hkp.row.kept hg (ownsRow_diff (by decide) hkp.row htp),fun y hy=>⟨(hkp.each y hy).1.mono hCk (fun _ x=>x),(hkp.each y hy).2.mono hCk (fun _ x=>x)⟩,hkp.out⟩ ho ((h.ps.lefts p hp).kept hg (ownsRow_diff (by decide) (h.ps.lefts p hp) htp)) (h.ps.ins p hp) (.inl rfl) ?_ (.inl rfl)
 rcases hv with e | e
 ·exact .inl e
 ·exact .inr (.inr ⟨_,e,Nat.le_refl _⟩)
theorem WS.moreLeft {C:Nat -> Prop} {X:List KidV} {B g cap:Nat} {p:PartW} {rest:List PartW} {W0 w w3:World} {v':Value} {q:Value × Tr} (h:WS C B X (.slice (some ⟨g,0,none⟩) (rest.length + 1) cap) (p :: rest) W0 w)
  (ho:w3.ownsRow B 25 1 v' (p.left ++ [q]).length ((p.left ++ [q]).map Prod.fst)) (hg:w.grownBy w3 p.lv.ownBlock) (hv:v'.ownBlock = p.lv.ownBlock \/ v'.ownBlock = some w.heap.size) (hq:NodesIn W0 q.1 q.2) :
  WS C B X (.slice (some ⟨g,0,none⟩) (rest.length + 1) cap) ({ p with left:=p.left ++ [q],lv:=v' } :: rest) W0 (w3.setCell ⟨g,rest.length * 6 + 5,none⟩ v'):=by
 have hp:=List.mem_cons_self (a:=p) (l:=rest);have hlp:=h.ps.lefts p hp;have hkp:=h.ps.kids p hp
 have hCk:∀ x,C x -> w3.heap[x]? = w.heap[x]?:=fun x hx=>hg.block x (h.ps.typ x hx).2.1 (fun e=>by
  have:=ownsRow_other hlp (r:=x) (fun cur hh=>by
   rcases (h.ps.typ x hx).2.2 _ _ _ hh with e1 | e1 <;> exact absurd e1 (by decide))
  exact this e.symm)
 refine h.step hg { p with left:=p.left ++ [q],lv:=v' } 5 _ (by decide) rfl (fun k e=>.inr (.inr e)) rfl rfl
  ⟨hkp.row.kept hg (ownsRow_diff (by decide) hkp.row hlp),fun y hy=>⟨(hkp.each y hy).1.mono hCk (fun _ x=>x),(hkp.each y hy).2.mono hCk (fun _ x=>x)⟩,hkp.out⟩ ((h.ps.tails p hp).kept hg (ownsRow_diff (by decide) (h.ps.tails p hp) hlp)) ho (fun y hy=>?_) (.inl rfl) (.inl rfl) ?_
 ·rcases List.mem_append.1 hy with hy | hy
  ·exact h.ps.ins p hp y hy
  ·obtain rfl:=List.mem_singleton.1 hy;exact hq
 ·rcases hv with e | e
  ·exact .inl e
  ·exact .inr ⟨_,e,Nat.le_refl _⟩
theorem WS.nextLeft {C:Nat -> Prop} {X:List KidV} {B g cap gl lc:Nat} {p:PartW} {rest:List PartW} {W0 w:World} {pre:List (Value × Tr)} {q q':Value × Tr} (h:WS C B X (.slice (some ⟨g,0,none⟩) (rest.length + 1) cap) (p :: rest) W0 w)
  (hl:p.left = pre ++ [q]) (hlv:p.lv = .slice (some ⟨gl,0,none⟩) (pre.length + 1) lc) (hq:NodesIn W0 q'.1 q'.2) :
  WS C B X (.slice (some ⟨g,0,none⟩) (rest.length + 1) cap) ({ p with left:=pre ++ [q'] } :: rest) W0 (w.setCell ⟨gl,pre.length,none⟩ q'.1):=by
 have hp:=List.mem_cons_self (a:=p) (l:=rest);have hlp:=h.ps.lefts p hp;have hlen:p.left.length = pre.length + 1:=by rw [hl,List.length_append];rfl
 rw [hlv,hlen] at hlp;obtain ⟨r1,r2⟩:=hlp.stored pre.length q'.1;have r2':w.grownBy (w.setCell ⟨gl,pre.length,none⟩ q'.1) p.lv.ownBlock:=by rw [hlv];exact r2
 have hlp:=h.ps.lefts p hp;have hkp:=h.ps.kids p hp
 have hCk:∀ x,C x -> (w.setCell ⟨gl,pre.length,none⟩ q'.1).heap[x]? = w.heap[x]?:=fun x hx=>r2'.block x (h.ps.typ x hx).2.1 (fun e=>by
  have:=ownsRow_other hlp (r:=x) (fun cur hh=>by
   rcases (h.ps.typ x hx).2.2 _ _ _ hh with e1 | e1 <;> exact absurd e1 (by decide))
  exact this e.symm)
 have s:=h.ps.step r2' { p with left:=pre ++ [q'] } (fun k e=>.inr (.inr e)) rfl rfl
  ⟨hkp.row.kept r2' (ownsRow_diff (by decide) hkp.row hlp),fun y hy=>⟨(hkp.each y hy).1.mono hCk (fun _ x=>x),(hkp.each y hy).2.mono hCk (fun _ x=>x)⟩,hkp.out⟩ ((h.ps.tails p hp).kept r2' (ownsRow_diff (by decide) (h.ps.tails p hp) hlp)) (by
   rw [hl,List.map_append,List.set_append_right _ _ (by rw [List.length_map];exact Nat.le_refl _),List.length_map,Nat.sub_self] at r1;show World.ownsRow _ B _ 1 p.lv (pre ++ [q']).length ((pre ++ [q']).map Prod.fst)
   rw [hlv,List.map_append,List.length_append];exact r1) (fun y hy=>by
   rcases List.mem_append.1 hy with hy | hy
   ·exact h.ps.ins p hp y (by rw [hl];exact List.mem_append.2 (.inl hy))
   ·obtain rfl:=List.mem_singleton.1 hy;exact hq) (.inl rfl) (.inl rfl) (.inl rfl)
 refine ⟨?_,s.1⟩;have:=s.2 (by decide) (by decide) (by decide) h.row
 have e:washVals (p :: rest).reverse = washVals (({ p with left:=pre ++ [q'] }:PartW) :: rest).reverse:=by
  rw [List.reverse_cons,List.reverse_cons,washVals_append,washVals_append];rfl
 rw [e] at this;exact this
theorem WS.lessLeft {C:Nat -> Prop} {X:List KidV} {B g cap gl lc:Nat} {p:PartW} {rest:List PartW} {W0 w:World} {pre:List (Value × Tr)} {q:Value × Tr} (h:WS C B X (.slice (some ⟨g,0,none⟩) (rest.length + 1) cap) (p :: rest) W0 w)
  (hl:p.left = pre ++ [q]) (hlv:p.lv = .slice (some ⟨gl,0,none⟩) (pre.length + 1) lc) :
  WS C B X (.slice (some ⟨g,0,none⟩) (rest.length + 1) cap) ({ p with left:=pre,lv:=.slice (some ⟨gl,0,none⟩) pre.length lc } :: rest) W0 (w.setCell ⟨g,rest.length * 6 + 5,none⟩ (.slice (some ⟨gl,0,none⟩) pre.length lc)):=by
 have hp:=List.mem_cons_self (a:=p) (l:=rest);have hlp:=h.ps.lefts p hp;refine h.step (grown_refl w) { p with left:=pre,lv:=.slice (some ⟨gl,0,none⟩) pre.length lc } 5 _ (by decide) rfl (fun k e=>by cases e) rfl rfl (h.ps.kids p hp) (h.ps.tails p hp) ?_ (fun y hy=>h.ps.ins p hp y (by rw [hl];exact List.mem_append.2 (.inl hy))) (.inl rfl) (.inl rfl) (.inl (by rw [hlv];rfl));show w.ownsRow B _ 1 _ pre.length (pre.map Prod.fst)
 refine ⟨by rw [List.length_map,Nat.mul_one],?_⟩;rcases hlp.2 with ⟨h0,_⟩ | ⟨g',cap',cur,h0,hg,hh,h1,h2,h3,h4⟩
 ·rw [hlv] at h0;cases h0
 ·rw [hlv] at h0;injection h0 with e1 e2 e3;injection e1 with e1;injection e1 with e1;subst e1 e3;rw [hl] at h1 h4;refine .inr ⟨gl,lc,cur,rfl,hg,hh,by rw [List.length_append] at h1;simp only [List.length_cons,List.length_nil] at h1;omega,h2,h3,?_⟩;have e5:=congrArg (List.take (pre.length * 1)) h4;rw [List.take_take,Nat.min_eq_left (by rw [List.length_append];simp only [List.length_cons,List.length_nil];omega)] at e5;rw [e5,List.map_append,List.take_append_of_le_length (by rw [List.length_map];omega),List.take_of_length_le (by rw [List.length_map];omega)]
theorem WS.wider {C C':Nat -> Prop} {B:Nat} {X:List KidV} {r:Value} {st:List PartW} {W0 w:World} (h:WS C B X r st W0 w) (hs:∀ x,C x -> C' x) (ho:∀ p ∈ st,∀ g,p.kv.ownBlock = some g -> ¬ C' g)
  (ht:∀ g,C' g -> B <= g /\ g < w.heap.size /\ ∀ cur T fz,w.heap[g]? = some (.cells cur T fz) -> T = 36 \/ T = 47):WS C' B X r st W0 w :=
 ⟨h.row,⟨fun p hp=>(h.ps.attrs p hp).mono (fun _ _=>rfl) hs,fun p hp=>⟨(h.ps.kids p hp).row,fun q hq=>⟨((h.ps.kids p hp).each q hq).1.mono (fun _ _=>rfl) hs,((h.ps.kids p hp).each q hq).2.mono (fun _ _=>rfl) hs⟩,ho p hp⟩,h.ps.tails,h.ps.lefts,h.ps.ins,h.ps.kap,h.ps.tap,h.ps.lap,ht,h.ps.base,h.ps.below,h.ps.size,fun q hq=>⟨(h.ps.hand q hq).1.mono (fun _ _=>rfl) hs,(h.ps.hand q hq).2.mono (fun _ _=>rfl) hs⟩⟩⟩
def NewC (C:Nat -> Prop) (n:Nat) (w:World):Prop:=∀ g,C g -> n <= g /\ g < w.heap.size /\ ∀ cur T fz,w.heap[g]? = some (.cells cur T fz) -> T = 36 \/ T = 47
theorem NewC.kept {C:Nat -> Prop} {n:Nat} {w w':World} (h:NewC C n w) (hb:Below w.heap.size w w'):NewC C n w':=fun g hg=>⟨(h g hg).1,Nat.lt_of_lt_of_le (h g hg).2.1 hb.size,by rw [hb.block g (h g hg).2.1];exact (h g hg).2.2⟩
theorem WS.news {C D:Nat -> Prop} {B:Nat} {X:List KidV} {r:Value} {st:List PartW} {W0 w w':World} (h:WS C B X r st W0 w) (hb:Below w.heap.size w w') (hD:NewC D w.heap.size w'):WS (fun x=>C x \/ D x) B X r st W0 w':=by
 have hk:=h.kept hb;refine hk.wider (fun x hx=>.inl hx) (fun p hp g e=>?_) (fun g hg=>?_)
 ·rintro (hc | hc)
  ·exact (h.ps.kids p hp).out g e hc
  ·have:=((h.ps.kids p hp).row.lt g e).2;have:=(hD g hc).1;omega
 ·rcases hg with hg | hg
  ·exact hk.ps.typ g hg
  ·exact ⟨Nat.le_trans h.ps.size (hD g hg).1,(hD g hg).2⟩
theorem newC_row {w:World} {n:Nat} {v:Value} {m:Nat} {xs:List Value} {e:TypeId} {sz:Nat} (he:e = 36 \/ e = 47) (h:w.ownsRow n e sz v m xs):NewC (fun x=>v.ownBlock = some x) n w:=fun g hg=>by
 refine ⟨(h.lt g hg).1,(h.lt g hg).2,fun cur T fz hh=>?_⟩;rcases h.2 with ⟨e0,_⟩ | ⟨g',cap',cur',e0,_,hh',_⟩
 ·rw [e0] at hg;cases hg
 ·rw [e0] at hg;obtain rfl:g' = g:=by simpa [Value.ownBlock] using hg
  rw [hh'] at hh;injection hh with hh;injection hh with _ hh;rw [<- hh];exact he
theorem WS.shrink {C:Nat -> Prop} {X:List KidV} {B g cap:Nat} {p:PartW} {rest:List PartW} {W0 w:World} (h:WS C B X (.slice (some ⟨g,0,none⟩) (rest.length + 1) cap) (p :: rest) W0 w) :
  ∃ C':Nat -> Prop,(∀ x,C x -> C' x) /\ WS C' B X (.slice (some ⟨g,0,none⟩) rest.length cap) rest W0 w /\ AttrsC C' w p.av p.attrs /\ NodesC C' w p.kv (Tr.of (p.kids.map Prod.fst)):=by
 have hkp:=h.ps.kids p (List.mem_cons_self ..);have hrm:∀ x ∈ rest,x ∈ p :: rest:=fun x hx=>List.mem_cons_of_mem _ hx
 have hrow:=h.row
 have hshort:w.ownsRow B 84 6 (.slice (some ⟨g,0,none⟩) rest.length cap) rest.length (washVals rest.reverse):=by
  refine ⟨by rw [washVals_length,List.length_reverse],?_⟩;rcases hrow.2 with ⟨h0,_⟩ | ⟨g',cap',cur,h0,hg,hh,h1,h2,h3,h4⟩
  ·cases h0
  ·injection h0 with e1 e2 e3;injection e1 with e1;injection e1 with e1;subst e1 e3;refine .inr ⟨g,cap,cur,rfl,hg,hh,by simp only [List.length_cons] at h1 ⊢;omega,h2,h3,?_⟩;have e5:=congrArg (List.take (rest.length * 6)) h4;rw [List.take_take,Nat.min_eq_left (by simp only [List.length_cons];omega)] at e5;rw [e5,List.reverse_cons,washVals_append];have hl:(washVals rest.reverse).length = rest.length * 6:=by rw [washVals_length,List.length_reverse]
   rw [List.take_append_of_le_length (Nat.le_of_eq hl.symm),<- hl,List.take_length]
 have hsub:∀ x,C x -> (C x \/ p.kv.ownBlock = some x):=fun x hx=>.inl hx
 have hcl:=(List.pairwise_cons.1 h.ps.kap).1
 have hs:WS C B X (.slice (some ⟨g,0,none⟩) rest.length cap) rest W0 w :=
  ⟨hshort,⟨fun x hx=>h.ps.attrs x (hrm x hx),fun x hx=>h.ps.kids x (hrm x hx),fun x hx=>h.ps.tails x (hrm x hx),fun x hx=>h.ps.lefts x (hrm x hx),fun x hx=>h.ps.ins x (hrm x hx),(List.pairwise_cons.1 h.ps.kap).2,(List.pairwise_cons.1 h.ps.tap).2,(List.pairwise_cons.1 h.ps.lap).2,h.ps.typ,h.ps.base,h.ps.below,h.ps.size,h.ps.hand⟩⟩
 refine ⟨fun x=>C x \/ p.kv.ownBlock = some x,hsub,hs.wider hsub (fun x hx k e=>?_) (fun k hk=>?_),(h.ps.attrs p (List.mem_cons_self ..)).mono (fun _ _=>rfl) hsub,hkp.nodes hsub (fun k e=>.inr e)⟩
 ·rintro (hc | hc)
  ·exact (hs.ps.kids x hx).out k e hc
  ·rcases hcl x hx with e1 | e1
   ·rw [e1] at hc;cases hc
   ·exact e1 (hc.trans e.symm)
 ·rcases hk with hk | hk
  ·exact h.ps.typ k hk
  ·exact newC_row (.inl rfl) hkp.row k hk
theorem WS.pushPart {C:Nat -> Prop} {X:List KidV} {B:Nat} {r r':Value} {st:List PartW} {W0 w w2:World} (h:WS C B X r st W0 w) (nm:List UInt8) (ats:List AtL) (av lv kv:Value) (K:Tr) (ha:AttrsC C w av ats)
  (hl:w.ownsRow B 25 1 lv 1 [kv]) (hla:∀ p ∈ st,p.lv.ownBlock ≠ lv.ownBlock) (hk0:NodesIn W0 kv K)
  (ho:w2.ownsRow B 84 6 r' (st.length + 1) (washVals st.reverse ++ washVals [⟨nm,ats,av,[],.slice none 0 0,[],.slice none 0 0,[(kv,K)],lv⟩])) (hg:w.grownBy w2 r.ownBlock) :
  WS C B X r' (⟨nm,ats,av,[],.slice none 0 0,[],.slice none 0 0,[(kv,K)],lv⟩ :: st) W0 w2:=by
 have hC:∀ k,C k -> k < w.heap.size:=fun k hk=>(h.ps.typ k hk).2.1
 have hrC:∀ k,r.ownBlock = some k -> ¬ C k:=fun k e hc=>by
  rcases h.row.2 with ⟨e0,_⟩ | ⟨g,cap,cur,e0,_⟩
  ·rw [e0] at e;cases e
  ·subst e0;obtain rfl:g = k:=by simpa [Value.ownBlock] using e
   exact h.out.1 hc
 have hk:∀ x,C x -> w2.heap[x]? = w.heap[x]?:=fun x hx=>hg.block x (hC x hx) (fun e=>hrC x e.symm hx)
 have hown:∀ {e:TypeId} {sz m:Nat} {v:Value} {xs:List Value},e ≠ 84 -> w.ownsRow B e sz v m xs -> w2.ownsRow B e sz v m xs:=fun {e sz m v xs} h1 hx=>hx.kept hg (ownsRow_diff h1 hx h.row)
 refine ⟨?_,⟨?_,?_,?_,?_,?_,?_,?_,?_,fun x hx=>⟨(h.ps.typ x hx).1,Nat.lt_of_lt_of_le (hC x hx) hg.size,by rw [hk x hx];exact (h.ps.typ x hx).2.2⟩,h.ps.base,h.ps.below.grown hg h.ps.size (fun k e=>(h.row.lt k e).1),Nat.le_trans h.ps.size hg.size,fun q hq=>⟨(h.ps.hand q hq).1.mono hk (fun _ x=>x),(h.ps.hand q hq).2.mono hk (fun _ x=>x)⟩⟩⟩
 ·rw [List.length_cons,List.reverse_cons,washVals_append];exact ho
 ·intro x hx;rcases List.mem_cons.1 hx with rfl | hx
  ·exact ha.mono hk (fun _ x=>x)
  ·exact (h.ps.attrs x hx).mono hk (fun _ x=>x)
 ·intro x hx;rcases List.mem_cons.1 hx with rfl | hx
  ·exact ⟨World.ownsRow_nil _ B _ 4,fun y hy=>(by cases hy),fun k e=>(by cases e)⟩
  ·have:=h.ps.kids x hx;exact ⟨hown (by decide) this.row,fun y hy=>⟨(this.each y hy).1.mono hk (fun _ x=>x),(this.each y hy).2.mono hk (fun _ x=>x)⟩,this.out⟩
 ·intro x hx;rcases List.mem_cons.1 hx with rfl | hx
  ·exact World.ownsRow_nil _ B _ 1
  ·exact hown (by decide) (h.ps.tails x hx)
 ·intro x hx;rcases List.mem_cons.1 hx with rfl | hx
  ·exact hown (by decide) hl
  ·exact hown (by decide) (h.ps.lefts x hx)
 ·intro x hx;rcases List.mem_cons.1 hx with rfl | hx
  ·intro y hy;obtain rfl:=List.mem_singleton.1 hy;exact hk0
  ·exact h.ps.ins x hx
 ·exact List.pairwise_cons.2 ⟨fun x hx=>.inl rfl,h.ps.kap⟩
 ·exact List.pairwise_cons.2 ⟨fun x hx=>.inl rfl,h.ps.tap⟩
 ·exact List.pairwise_cons.2 ⟨fun x hx=>.inr (fun e=>hla x hx e.symm),h.ps.lap⟩
def PartW.toW (p:PartW):WashL:=(p.kids.map Prod.fst,p.tail)
def EndW (p p':PartW):Prop:=p'.name = p.name /\ p'.attrs = p.attrs /\ p'.left = p.left /\ p'.kids.map Prod.fst = wEnd p.toW /\ p'.tail = []
theorem endTextW_any (C : Nat → Prop) (X : List KidV) (B g cap : Nat) (p : PartW) (rest : List PartW) (W0 w : World) (h : WS C B X (.slice (some ⟨g, 0, none⟩) (rest.length + 1) cap) (p :: rest) W0 w) (hl : rest.length ≤ 1048576) (hk : p.kids.length ≤ 1048576) (ht : p.tail.length ≤ 70368744177664) :
    Calls Tryz.prog 41 #[.pointer (some ⟨g, rest.length * 6, none⟩)] w fun e w' => e = .returned (.tuple #[]) ∧
      ∃ p', WS C B X (.slice (some ⟨g, 0, none⟩) (rest.length + 1) cap) (p' :: rest) W0 w' ∧ EndW p p' := by
  obtain ⟨e0, e1, e2, e3, e4, e5, ef⟩ := h.cells
  have tl1 := h.ps.tails p (List.mem_cons_self ..)
  by_cases hx : p.tail = []
  · obtain ⟨At, ct, ht2⟩ : ∃ A c, p.tv = .slice A 0 c := by
      rcases tl1.2 with ⟨hv, _⟩ | ⟨g', cap', cur, hv, _⟩
      · exact ⟨_, _, hv⟩
      · rw [hx] at hv; exact ⟨_, _, hv⟩
    rw [ht2] at e4
    have HR : Hid (WS C B X (.slice (some ⟨g, 0, none⟩) (rest.length + 1) cap) (p :: rest) W0 w ∧ EndW p p) := hide ⟨h, rfl, rfl, rfl, by unfold wEnd PartW.toW; rw [if_pos hx], hx⟩
    clear h e0 e1 e2 e3 e5 ef tl1 hx ht2 hk ht
    go_enter Tryz.func41, Tryz.ntmps41
    go_wp2_with fail
    go_end0
    exact ⟨rfl, p, HR.out⟩
  · obtain ⟨gt, ct, htv⟩ : ∃ gt ct, p.tv = .slice (some ⟨gt, 0, none⟩) p.tail.length ct := by
      rcases tl1.2 with ⟨_, h0⟩ | ⟨g', cap', cur, hv, _⟩
      · exact absurd (List.eq_nil_of_length_eq_zero h0) hx
      · exact ⟨g', cap', hv⟩
    rw [htv] at e4
    obtain ⟨N, hN⟩ : ∃ N, p.tail.length = N := ⟨_, rfl⟩
    have hN0 : 0 < N := by rw [← hN]; exact List.length_pos_iff.2 hx
    have g1 : decide ((0 : Int) < (N : Int)) = true := decide_eq_true (by omega)
    rw [hN] at e4
    obtain ⟨KA, KC, hkv⟩ : ∃ A c, p.kv = .slice A p.kids.length c := by
      rcases (h.ps.kids p (List.mem_cons_self ..)).row.2 with ⟨hv, h0⟩ | ⟨g', cap', cur, hv, _⟩
      · exact ⟨none, 0, by rw [hv, h0]⟩
      · exact ⟨_, _, hv⟩
    rw [hkv] at e3
    obtain ⟨X, hX⟩ : ∃ X, str p.tail = X := ⟨_, rfl⟩
    have HX := hide hX
    have HXN := hide hx
    have HH := hide h
    have HK := hide hk
    have HTV := hide htv
    have HKV := hide hkv
    have HNN := hide hN
    have hcv : ∀ w', w'.ownsRow B 5 1 p.tv p.tail.length (cellsOf p.tail) → (convert 58 9 (.slice (some ⟨gt, 0, none⟩) N ct)).run Tryz.prog w' = .ok (.string X) w' := fun w' hw' => by
      have := Buf.convert (B := 0) (W0 := w') (w := w') (v := p.tv) (l := p.tail) ⟨ownsRow_down hw' (Nat.zero_le _), Below.refl _ _, Nat.zero_le _⟩
      rw [htv, hN, hX] at this
      exact this
    have HCV := hide hcv
    have cv0 := hcv w tl1
    clear h hx hk htv hkv hX tl1 ht hN hcv e5
    have HOWN : Hid (∀ W, Below w.heap.size w W → W.ownsRow B 36 4 (.slice KA p.kids.length KC) p.kids.length (nodeVals p.kids)) := hide fun W hW => by
      have := ((HH.out.kept hW).ps.kids p (List.mem_cons_self ..)).row
      rw [HKV.out] at this; exact this
    have e3a : ∀ ob, (w.alloc ob).cell? ⟨g, rest.length * 6 + 3, none⟩ = some (.slice KA p.kids.length KC) := fun ob => ((below_one w ob).cell (World.block_lt_of_cell? _ _ e3)).trans e3
    have e4a : ∀ ob, (w.alloc ob).cell? ⟨g, rest.length * 6 + 4, none⟩ = some (.slice (some ⟨gt, 0, none⟩) N ct) := fun ob => ((below_one w ob).cell (World.block_lt_of_cell? _ _ e4)).trans e4
    have cv0d := HCV.out w.drew (((HH.out.kept (Below.refl _ _).drew).ps.tails p (List.mem_cons_self ..)))
    have cv1 : ∀ ob, (convert 58 9 (.slice (some ⟨gt, 0, none⟩) N ct)).run Tryz.prog (w.alloc ob) = .ok (.string X) (w.alloc ob) := fun ob => HCV.out _ (((HH.out.kept (below_one w ob)).ps.tails p (List.mem_cons_self ..)))
    have cv1d : ∀ ob, (convert 58 9 (.slice (some ⟨gt, 0, none⟩) N ct)).run Tryz.prog (w.alloc ob).drew = .ok (.string X) (w.alloc ob).drew := fun ob => HCV.out _ (((HH.out.kept ((below_one w ob).drew)).ps.tails p (List.mem_cons_self ..)))
    have tn5 : ((p.kids.length : Nat) : Int) < (p.kids.length : Int) + 1 := by omega
    go_enter Tryz.func41, Tryz.ntmps41
    go_wp2_with fail
    all_goals first | exact absurd hN0 ‹_› | skip
    go_region_law (first
      | (refine step_node0 rfl _ _ rfl B (.slice KA p.kids.length KC) p.kids rfl (HOWN.out _ ?_) ?_ ⟨w.heap.size, 0, none⟩ rfl (node_row _ _ _ _ _).1 (node_row _ _ _ _ _).2.1 (node_row _ _ _ _ _).2.2.1 (node_row _ _ _ _ _).2.2.2 (by have := HK.out; omega) ?_
         · exact ((Below.refl _ _).alloc (Nat.le_refl _) _).drew
         · exact Nat.le_trans HH.out.ps.size (((Below.refl w.heap.size w).alloc (Nat.le_refl _) _).drew).size
         intro g' cap' w2 ho2 hg2 hor2 hc2 hm2
         have HB1 := hide (HH.out.kept (((Below.refl w.heap.size w).alloc (Nat.le_refl _) (.cells #[.string ⟨#[]⟩, .slice none 0 0, .string ⟨#[]⟩, .slice none 0 0] 36)).drew))
         have hg3 := hg2
         rw [← HKV.out] at hg3 hor2
         obtain ⟨n1, n2, ⟨n3, n4, n5, n6⟩, n7, n8⟩ := wash_facts HB1.out ho2 hg3 hor2
         have n9 : w2.cell? ⟨g, rest.length * 6 + 3, none⟩ = some (.slice KA p.kids.length KC) := (n8 _).trans (e3a _)
         have n10 : w2.cell? ⟨g, rest.length * 6 + 4, none⟩ = some (.slice (some ⟨gt, 0, none⟩) N ct) := (n8 _).trans (e4a _)
         have n11 : ¬ (g = g') := fun e => n1 e.symm
         have HO2 := hide ho2
         have HG2 := hide hg3
         have HOR := hide hor2
         clear ho2 hg2 hg3 hor2 hc2 hm2 n8))
    all_goals
      first | rw [kid_comm w2 n11] | skip
      have hb2 := HB1.out.kidWritten (q := (textNd p.tail, (.slice none 0 0, .slice none 0 0))) HO2.out HG2.out HOR.out ⟨⟨.inl ⟨rfl, rfl⟩, fun a n c e => (by cases e)⟩, .inl ⟨rfl, rfl⟩⟩
      rw [show (textNd p.tail).1.text = p.tail from rfl, HX.out] at hb2
      have hb3 := hb2.noTail
      have HB3 := hide hb3
      clear hb2 hb3
      go_wp2_with fail
      go_end0
      refine ⟨rfl, _, HB3.out, rfl, rfl, rfl, ?_, rfl⟩
      unfold wEnd PartW.toW
      rw [if_neg (show ¬ (p.kids.map Prod.fst, p.tail).2 = [] from HXN.out)]
      simp [textNd]
section
variable {P:Program} (w:World)
theorem run_append_text2 (base:Nat) (t u ty e:TypeId) (i:TypeInfo) (ht:P.underlying t = some (.slice e)) (hu:P.underlying u = some .string) (hi:P.info? e = some i) (hz:i.zero = some (.int .u8 0))
  (hsize:i.size = 1) (hby:i.bytes = 1) (v:Value) (n:Nat) (xs:List Value) (hown:w.ownsRow base e 1 v n xs) (s:ByteArray)
  (h63:n + s.size <= maxLen) (hbytes:n + s.size <= 140737488355328) (hbase:base <= w.heap.size) :
  ∃ v' w',(Builtin.append_ #[t,u] ty #[v,.string s]).run P w = .ok v' w' /\ w'.ownsRow base e 1 v' (n + s.size) (xs ++ Lib.strCells s) /\ w.grownBy w' v.ownBlock /\
   (v'.ownBlock = v.ownBlock \/ v'.ownBlock = some w.heap.size):=by
 obtain ⟨v',w',hr,h2,h3,h4⟩:=Lib.run_append_own_string (P:=P) w base t u ty e i ht hu hi hz hsize hby v n xs hown s h63 hbytes hbase;refine ⟨v',w',hr,h2,h3,?_⟩;have hsmall:n + s.size <= 9223372036854775807:=by simp only [maxLen] at h63;omega
 have hxl:xs.length = n:=by simpa using hown.1
 rcases hown.2 with ⟨rfl,rfl⟩ | ⟨g,cap,cur,rfl,hbg,hg,hnc,hcm,hcs,htake⟩
 ·by_cases hm:s.size = 0
  ·left;rw [h4.2 ⟨rfl,hm⟩]
  ·have hr2:=run_append_nil_string (P:=P) w t u ty e i (.int .u8 0) ht hu hi hz s (by omega) (by omega) (by rw [hby];omega);rw [hr] at hr2;injection hr2 with e1 e2;subst e1;exact .inr rfl
 ·by_cases hroom:n + s.size <= cap
  ·have hcs':cur.size = cap:=by simpa using hcs
   have hr2:=Lib.run_append_room_string (P:=P) w t u ty e i ht hu hi hsize g n cap cur hg s hroom (by omega);rw [hr] at hr2;injection hr2 with e1 e2;subst e1;exact .inl rfl
  ·have holds:∀ j u,xs[j]? = some u -> w.cell? ((⟨g,0,none⟩:Addr).add j) = some u:=hown.cells (g:=g) rfl;have hr2:=Lib.run_append_grow_string (P:=P) w t u ty e i (.int .u8 0) ht hu hi hz ⟨g,0,none⟩ n cap xs (by rw [hsize];simpa using hxl) holds s (by omega) (by omega) (by rw [hby];exact growslice_fits (by omega) (by omega));rw [hr] at hr2;injection hr2 with e1 e2;subst e1;exact .inr rfl
end
def ByRow (B:Nat) (v:Value) (l:List UInt8) (w:World):Prop:=w.ownsRow B 5 1 v l.length (cellsOf l)
theorem wpList_text2 {ops:Array Oper} {rest:List Oper} {o:Oper} {a:Act} {Q:Exit -> Act -> World -> Prop} {w:World} (hgd:o.guard = none) (sl x:Operand)
  (ho:o.op = .call { callee:=.builtin .append,args:=#[sl,x],argTypes:=#[58,9] })
  (B:Nat) (v:Value) (l:List UInt8) (hs:a.eval sl = v) (hb:ByRow B v l w) (hB:B <= w.heap.size) (s:ByteArray) (hx:a.eval x = .string s) (hlen:l.length + s.size <= 140737488355328)
  (h:∀ v' w',ByRow B v' (l ++ s.data.toList) w' -> w.grownBy w' v.ownBlock -> (v'.ownBlock = v.ownBlock \/ v'.ownBlock = some w.heap.size) -> wpList Tryz.prog ops Q rest (a.put o.dst v') w'):wpList Tryz.prog ops Q (o :: rest) a w:=by
 obtain ⟨i0,hi,hz0,hz1,hz2⟩:=info_parts info_u8;refine wpList_plain hgd fun K hK=>?_
 obtain ⟨v',w',hr,h2,h3,h4⟩:=run_append_text2 (P:=Tryz.prog) w B 58 9 o.type 5 i0 Tryz.underlying58 Tryz.underlying9 hi hz0 hz1 hz2 v l.length (cellsOf l) hb s (by unfold maxLen;omega) hlen hB;unfold Oper.wp execOp;simp only [ho,resolve,invoke,builtin,Sem.run_bind,Sem.run_pure,Result.andThen_ok,List.map_toArray,List.map_cons,List.map_nil,hs,hx,hr];refine hK _ _ (h v' w' ?_ h3 h4);unfold ByRow;rw [List.length_append,toList_length,cellsOf,List.map_append];exact h2
theorem own_any {w:World} {B:Nat} {e:TypeId} {sz n:Nat} {v:Value} {xs:List Value} (h:w.ownsRow B e sz v n xs):∃ A c,v = .slice A n c:=by
 rcases h.2 with ⟨hv,h0⟩ | ⟨g',cap',cur,hv,_⟩
 ·exact ⟨none,0,by rw [hv,h0]⟩
 ·exact ⟨_,_,hv⟩
theorem addTextW_any (C : Nat → Prop) (X : List KidV) (B g cap : Nat) (p : PartW) (rest : List PartW) (W0 w : World) (h : WS C B X (.slice (some ⟨g, 0, none⟩) (rest.length + 1) cap) (p :: rest) W0 w) (x : ByteArray) (hz : p.tail.length + x.size ≤ 140737488355328) :
    Calls Tryz.prog 57 #[.pointer (some ⟨g, rest.length * 6, none⟩), .string x] w fun e w' => e = .returned (.tuple #[]) ∧
      ∃ p', WS C B X (.slice (some ⟨g, 0, none⟩) (rest.length + 1) cap) (p' :: rest) W0 w' ∧ p' = { p with tail := p.tail ++ x.data.toList, tv := p'.tv } := by
  obtain ⟨At, ct, htv⟩ := own_any (h.ps.tails p (List.mem_cons_self ..))
  obtain ⟨e0, e1, e2, e3, e4, e5, ef⟩ := h.cells
  rw [htv] at e4
  have HH := hide h
  have HTV := hide htv
  clear h htv e0 e1 e2 e3 e5
  go_enter Tryz.func57, Tryz.ntmps57
  go_wp2_with (refine wpList_text2 rfl _ _ rfl B (.slice At p.tail.length ct) p.tail rfl (by have := (HH.out.ps.tails p (List.mem_cons_self ..)); rw [HTV.out] at this; exact this) HH.out.ps.size x rfl hz ?_
               intro v' w2 hown' hgrow hor'
               obtain ⟨ao, n', c', rfl⟩ : ∃ ao n' c', v' = .slice ao n' c' := by
                 rcases hown'.2 with ⟨hv, _⟩ | ⟨g0, c0, cur, hv, _⟩
                 · exact ⟨_, _, _, hv⟩
                 · exact ⟨_, _, _, hv⟩
               have hgt := hgrow
               rw [← HTV.out] at hgt hor'
               have hlg : g < w.heap.size := World.block_lt_of_cell? _ _ e4
               have hne : p.tv.ownBlock ≠ some g := ownsRow_other (HH.out.ps.tails p (List.mem_cons_self ..)) (r := g) (fun cur => HH.out.out.2.2 cur _ (by decide))
               have hgg : w2.heap[g]? = w.heap[g]? := hgt.block g hlg (fun e => hne e.symm)
               have d4 : w2.cell? ⟨g, rest.length * 6 + 4, none⟩ = some (.slice At p.tail.length ct) := (World.cell?_of_block hgg).trans e4
               have f4 : w2.frozen? ⟨g, rest.length * 6 + 4, none⟩ = false := (World.frozen?_of_block hgg).trans (ef _)
               have HO2 : Hid (w2.ownsRow B 5 1 (.slice ao n' c') (p.tail ++ x.data.toList).length (cellsOf (p.tail ++ x.data.toList))) := hide hown'
               have HG2 := hide hgt
               have HOR := hide hor'
               clear hown' hgrow hgt hlg hne hgg hor')
  go_end0
  have := HH.out.longTail HO2.out HG2.out HOR.out
  exact ⟨rfl, _, this, rfl⟩
theorem nodesAt_vals {C:Nat -> Prop} {w:World} {T:Tr} {a:Addr} (h:NodesAt C w T a):∃ qs:List KidV,qs.map Prod.fst = T.list /\ (∀ (j:Nat) u,(nodeVals qs)[j]? = some u -> w.cell? (a.add j) = some u) /\ ∀ q ∈ qs,AttrsC C w q.2.1 q.1.1.attrs /\ NodesC C w q.2.2 q.1.2:=by
 induction T generalizing a with
 | nil=>exact ⟨[],rfl,fun j u hj=>(by simp [nodeVals] at hj),fun q hq=>(by cases hq)⟩
 | cons f K R ihk ihr =>
  obtain ⟨h0,h1,h2,⟨u,h3,h4⟩,⟨v,h5,h6⟩,h7⟩:=h;obtain ⟨qs,e1,e2,e3⟩:=ihr h7;refine ⟨((f,K),(u,v)) :: qs,by rw [List.map_cons,e1];rfl,fun j x hj=>?_,fun q hq=>?_⟩
  ·have e:nodeVals (((f,K),(u,v)) :: qs) = .string (str f.name) :: u :: .string (str f.text) :: v :: nodeVals qs:=rfl;rw [e] at hj
   match j,hj with
   | 0,hj=>rw [List.getElem?_cons_zero,Option.some.injEq] at hj;subst hj;rw [Addr.add_zero'];exact h1
   | 1,hj=>simp only [List.getElem?_cons_succ,List.getElem?_cons_zero,Option.some.injEq] at hj;subst hj;exact h3
   | 2,hj=>simp only [List.getElem?_cons_succ,List.getElem?_cons_zero,Option.some.injEq] at hj;subst hj;exact h2
   | 3,hj=>simp only [List.getElem?_cons_succ,List.getElem?_cons_zero,Option.some.injEq] at hj;subst hj;exact h5
   | (j + 4),hj =>
    simp only [List.getElem?_cons_succ] at hj;have:=e2 j x hj;rw [Addr.add_add] at this;rw [Nat.add_comm j 4];exact this
  ·rcases List.mem_cons.1 hq with rfl | hq
   ·exact ⟨h4,h6⟩
   ·exact e3 q hq
theorem nodeVals_one (qs:List KidV) (h:∀ q ∈ qs,q.2.1.oneCell' = true /\ q.2.2.oneCell' = true):∀ u ∈ nodeVals qs,u.oneCell' = true:=by
 intro u hu;unfold nodeVals at hu;obtain ⟨q,hq,hu⟩:=List.mem_flatMap.1 hu;obtain ⟨h1,h2⟩:=h q hq;simp only [List.mem_cons,List.not_mem_nil,or_false] at hu;rcases hu with rfl | rfl | rfl | rfl
 ·rfl
 ·exact h1
 ·rfl
 ·exact h2
theorem KRow.nil (C:Nat -> Prop) (B:Nat) (w:World):KRow C B (.slice none 0 0) [] w:=⟨World.ownsRow_nil w B _ 4,fun q h=>(by cases h),fun g e=>(by cases e)⟩
theorem KRow.kept {C:Nat -> Prop} {B:Nat} {v:Value} {ks:List KidV} {w w':World} (h:KRow C B v ks w) (hC:∀ k,C k -> k < w.heap.size) (hb:Below w.heap.size w w'):KRow C B v ks w' :=
 h.turned (row:=none) (grown_none hb) hC (fun k e=>by cases e) (by cases hv:v.ownBlock <;> simp)
theorem KRow.widen {C C':Nat -> Prop} {B:Nat} {v:Value} {ks:List KidV} {w:World} (h:KRow C B v ks w) (hC:∀ b,C b -> C' b) (ho:∀ g,v.ownBlock = some g -> ¬ C' g):KRow C' B v ks w :=
 ⟨h.row,fun q hq=>⟨(h.each q hq).1.mono (fun _ _=>rfl) hC,(h.each q hq).2.mono (fun _ _=>rfl) hC⟩,ho⟩
theorem KRow.slice {C:Nat -> Prop} {B:Nat} {v:Value} {ks:List KidV} {w:World} (h:KRow C B v ks w):∃ A c,v = .slice A ks.length c /\ ks.length <= c:=by
 rcases h.row.2 with ⟨rfl,h0⟩ | ⟨g,cap,cur,rfl,_,_,h1,_⟩
 ·rw [h0];exact ⟨_,_,rfl,Nat.zero_le _⟩
 ·exact ⟨_,_,rfl,h1⟩
theorem attrsC_one {C:Nat -> Prop} {w:World} {v:Value} {l:List AtL} (h:AttrsC C w v l):v.oneCell' = true:=by
 obtain ⟨A,c,rfl⟩:=h.1.form;rfl
theorem nodesC_one {C:Nat -> Prop} {w:World} {v:Value} {T:Tr} (h:NodesC C w v T):v.oneCell' = true:=by
 obtain ⟨A,c,rfl⟩:=h.form;rfl
theorem run_append_none (w:World) (ty:TypeId) (A:Option Addr) (n c:Nat) (hn:n <= c) :
  (Builtin.append_ #[25,25] ty #[.slice A n c,.slice none 0 0]).run Tryz.prog w = .ok (.slice A n c) w:=by
 obtain ⟨i0,hi,hz0,hz1,hz2⟩:=info_parts info_nd14;cases A with
 | none=>simp [Builtin.append_,run_underlying Tryz.underlying25,sizeOf,typeInfo,hi,Builtin.lenOf,Builtin.firstCells,hn]
 | some a=>simp [Builtin.append_,run_underlying Tryz.underlying25,sizeOf,typeInfo,hi,Builtin.lenOf,Builtin.firstCells,hn,storeCells]
theorem wpList_nodes {ops:Array Oper} {rest:List Oper} {o:Oper} {a:Act} {Q:Exit -> Act -> World -> Prop} {w:World} (hgd:o.guard = none) (s x:Operand)
  (ho:o.op = .call { callee:=.builtin .append,args:=#[s,x],argTypes:=#[25,25] })
  (C:Nat -> Prop) (B:Nat) (v:Value) (ks:List KidV) (hs:a.eval s = v) (hk:KRow C B v ks w) (hC:∀ k,C k -> k < w.heap.size) (hB:B <= w.heap.size)
  (u:Value) (hx:a.eval x = u) (T:Tr) (hu:NodesC C w u T) (hlen:ks.length + T.len <= 1073741824)
  (h:∀ v' qs w',KRow C B v' (ks ++ qs) w' -> qs.map Prod.fst = T.list -> w.grownBy w' v.ownBlock -> (v'.ownBlock = v.ownBlock \/ v'.ownBlock = some w.heap.size) -> wpList Tryz.prog ops Q rest (a.put o.dst v') w'):wpList Tryz.prog ops Q (o :: rest) a w:=by
 obtain ⟨i0,hi,hz0,hz1,hz2⟩:=info_parts info_nd14;rcases hu with ⟨rfl,rfl⟩ | ⟨ad,cap,rfl,hl1,hl2,hat⟩
 ·refine wpList_plain hgd fun K hK=>?_
  obtain ⟨A,c,hv,hnc⟩:=hk.slice;have hr:=run_append_none w o.type A ks.length c hnc;rw [<- hv] at hr;unfold Oper.wp execOp;simp only [ho,resolve,invoke,builtin,Sem.run_bind,Sem.run_pure,Result.andThen_ok,List.map_toArray,List.map_cons,List.map_nil,hs,hx,hr];exact hK _ _ (h v [] w (by rw [List.append_nil];exact hk) rfl ⟨rfl,rfl,rfl,Nat.le_refl _,fun _ _ _=>rfl⟩ (.inl rfl))
 ·obtain ⟨qs,e1,e2,e3⟩:=nodesAt_vals hat;have hql:qs.length = T.len:=by rw [<- Tr.len_list,<- e1,List.length_map]
  refine wpList_append_own2 _ hgd s x 25 ho B 36 i0 (.agg #[.string ByteArray.empty,.slice none 0 0,.string ByteArray.empty,.slice none 0 0]) 4 80 Tryz.underlying25 hi hz0 hz1 hz2 rfl (by decide) v ks.length (nodeVals ks) hs hk.row ad T.len cap (nodeVals qs) hx (by rw [nodeVals_length,hql]) e2 (nodeVals_one qs fun q hq=>⟨attrsC_one (e3 q hq).1,nodesC_one (e3 q hq).2⟩) (by unfold maxLen;omega) (by omega) hB ?_;intro v' w' ho' hg hor;refine h v' qs w' ⟨by rw [nodeVals_append,List.length_append,hql];exact ho',fun q hq=>?_,fun g hg2 hCg=>?_⟩ e1 hg hor
  ·have hkk:∀ b,C b -> w'.heap[b]? = w.heap[b]?:=fun b hb=>hg.block b (hC b hb) (fun e=>hk.out b e.symm hb)
   rcases List.mem_append.1 hq with hq | hq
   ·exact ⟨(hk.each q hq).1.mono hkk (fun _ x=>x),(hk.each q hq).2.mono hkk (fun _ x=>x)⟩
   ·exact ⟨(e3 q hq).1.mono hkk (fun _ x=>x),(e3 q hq).2.mono hkk (fun _ x=>x)⟩
  ·rcases hor with e | e
   ·exact hk.out g (by rw [<- e];exact hg2) hCg
   ·rw [e] at hg2;injection hg2 with hg2;exact absurd (hC g hCg) (by omega)
theorem info_left:(Tryz.prog.info? 25).map (fun i=>(i.zero,i.size,i.bytes)) = some (some (.slice none 0 0),1,24):=by kernel_rfl
theorem info_wpart:(Tryz.prog.info? 84).map (fun i=>(i.zero,i.size,i.bytes)) = some (some (.agg #[.string ByteArray.empty,.slice none 0 0,.string ByteArray.empty,.slice none 0 0,.slice none 0 0,.slice none 0 0]),6,128):=by kernel_rfl
section
variable {ops:Array Oper} {o:Oper} {a:Act} {Q:Exit -> Act -> World -> Prop}
theorem wpList_left {w:World} {rest:List Oper} (hgd:o.guard = none) (s x:Operand)
  (ho:o.op = .call { callee:=.builtin .append,args:=#[s,x],argTypes:=#[82,82] })
  (B:Nat) (v:Value) (l:List (Value × Tr)) (hs:a.eval s = v) (hb:w.ownsRow B 25 1 v l.length (l.map Prod.fst)) (hB:B <= w.heap.size)
  (ad:Addr) (hx:a.eval x = .slice (some ad) 1 1) (q:Value × Tr) (hc:w.cell? ad = some q.1) (ho1:q.1.oneCell' = true) (hlen:l.length + 1 <= 1000000000)
  (h:∀ v' w',w'.ownsRow B 25 1 v' (l ++ [q]).length ((l ++ [q]).map Prod.fst) -> w.grownBy w' v.ownBlock -> (v'.ownBlock = v.ownBlock \/ v'.ownBlock = some w.heap.size) -> wpList Tryz.prog ops Q rest (a.put o.dst v') w'):wpList Tryz.prog ops Q (o :: rest) a w:=by
 obtain ⟨i0,hi,hz0,hz1,hz2⟩:=info_parts info_left;refine wpList_append_own2 _ hgd s x 82 ho B 25 i0 _ 1 24 Tryz.underlying82 hi hz0 hz1 hz2 rfl (by decide) v l.length (l.map Prod.fst) hs hb ad 1 1 [q.1] hx rfl ?_ ?_ (by unfold maxLen;omega) (by omega) hB ?_
 ·intro j u hj
  match j,hj with
  | 0,hj=>simp at hj;subst hj;rw [Addr.add_zero'];exact hc
  | (j + 1),hj=>simp at hj
 ·intro u hu;simp at hu;subst hu;exact ho1
 ·intro v' w' ho' hg hor;exact h v' w' (by rw [List.length_append,List.map_append];exact ho') hg hor
end
theorem openW_any (C : Nat → Prop) (X : List KidV) (B g cap : Nat) (p : PartW) (rest : List PartW) (W0 w : World) (h : WS C B X (.slice (some ⟨g, 0, none⟩) (rest.length + 1) cap) (p :: rest) W0 w) (A : Option Addr) (n c : Nat) (T : Tr) (hT : NodesIn W0 (.slice A n c) T) (hz : p.left.length ≤ 1000000) :
    Calls Tryz.prog 59 #[.pointer (some ⟨g, rest.length * 6, none⟩), .slice A n c] w fun e w' => e = .returned (.tuple #[]) ∧
      ∃ p', WS C B X (.slice (some ⟨g, 0, none⟩) (rest.length + 1) cap) (p' :: rest) W0 w' ∧ p' = { p with left := p.left ++ [(.slice A n c, T)], lv := p'.lv } := by
  obtain ⟨Al, cl, hlv⟩ := own_any (h.ps.lefts p (List.mem_cons_self ..))
  obtain ⟨W, hW⟩ : ∃ W, W = w.alloc (.cells #[.slice A n c] 25) := ⟨_, rfl⟩
  have hbW : Below w.heap.size w W := by rw [hW]; exact below_one w _
  have hh := h.kept hbW
  obtain ⟨e0, e1, e2, e3, e4, e5, ef⟩ := h.cells
  obtain ⟨d0, d1, d2, d3, d4, d5, df⟩ := hh.cells
  have hcell : W.cell? ⟨w.heap.size, 0, none⟩ = some (.slice A n c) := by
    have hx : W.heap[w.heap.size]? = some (.cells #[.slice A n c] 25 (0, 0)) := by rw [hW]; exact heap_alloc_new w _
    rw [Lib.cell_of_heap hx]; rfl
  rw [hlv] at e5 d5
  have HH := hide hh
  have HLV := hide hlv
  have HT := hide hT
  have HCELL := hide hcell
  have HW := hide hW
  have HZ := hide hz
  clear h hh hlv hT hcell e0 e1 e2 e3 e4 d0 d1 d2 d3 d4 hz hbW hW
  go_enter Tryz.func59, Tryz.ntmps59
  go_wp2_with (rw [← HW.out]
               refine wpList_left rfl _ _ rfl B (.slice Al p.left.length cl) p.left rfl (by have := (HH.out.ps.lefts p (List.mem_cons_self ..)); rw [HLV.out] at this; exact this) HH.out.ps.size ⟨w.heap.size, 0, none⟩ rfl (.slice A n c, T) HCELL.out rfl (by have := HZ.out; omega) ?_
               intro v' w2 hown' hgrow hor'
               obtain ⟨ao, n', c', rfl⟩ : ∃ ao n' c', v' = .slice ao n' c' := by
                 rcases hown'.2 with ⟨hv, _⟩ | ⟨g0, c0, cur, hv, _⟩
                 · exact ⟨_, _, _, hv⟩
                 · exact ⟨_, _, _, hv⟩
               have hgt := hgrow
               rw [← HLV.out] at hgt hor'
               have hlg : g < W.heap.size := World.block_lt_of_cell? _ _ d5
               have hne : p.lv.ownBlock ≠ some g := ownsRow_other (HH.out.ps.lefts p (List.mem_cons_self ..)) (r := g) (fun cur => HH.out.out.2.2 cur _ (by decide))
               have hgg : w2.heap[g]? = W.heap[g]? := hgt.block g hlg (fun e => hne e.symm)
               have f4 : w2.frozen? ⟨g, rest.length * 6 + 5, none⟩ = false := (World.frozen?_of_block hgg).trans (df _)
               have g5 : w2.cell? ⟨g, rest.length * 6 + 5, none⟩ = some (.slice Al p.left.length cl) := (World.cell?_of_block hgg).trans d5
               have HO2 := hide hown'
               have HG2 := hide hgt
               have HOR := hide hor'
               clear hown' hgrow hgt hlg hne hgg hor')
  go_end0
  have := HH.out.moreLeft HO2.out HG2.out HOR.out HT.out
  exact ⟨rfl, _, this, rfl⟩
theorem WP.hands {C:Nat -> Prop} {B:Nat} {X Y:List KidV} {st:List PartW} {W0 w:World} (h:WP C B X st W0 w) (hY:∀ q ∈ Y,q ∈ X):WP C B Y st W0 w :=
 ⟨h.attrs,h.kids,h.tails,h.lefts,h.ins,h.kap,h.tap,h.lap,h.typ,h.base,h.below,h.size,fun q hq=>h.hand q (hY q hq)⟩
theorem WS.hands {C:Nat -> Prop} {B:Nat} {X Y:List KidV} {r:Value} {st:List PartW} {W0 w:World} (h:WS C B X r st W0 w) (hY:∀ q ∈ Y,q ∈ X):WS C B Y r st W0 w:=⟨h.row,h.ps.hands hY⟩
def boxK (h:NdH) (K:Tr) (k:Nat):KidV:=((⟨[],[],[]⟩,.cons h K .nil),(.slice none 0 0,.slice (some ⟨k,0,none⟩) 1 1))
theorem WS.box {C:Nat -> Prop} {B:Nat} {X:List KidV} {r:Value} {st:List PartW} {W0 w:World} (h:WS C B X r st W0 w) (hd:NdH) (K:Tr) (av kv:Value) (ha:AttrsC C w av hd.attrs) (hk:NodesC C w kv K) :
  WS (fun x=>C x \/ x = w.heap.size) B (boxK hd K w.heap.size :: X) r st W0 (w.alloc (.cells #[.string (str hd.name),av,.string (str hd.text),kv] 36)):=by
 obtain ⟨W,hW⟩:∃ W,W = w.alloc (.cells #[.string (str hd.name),av,.string (str hd.text),kv] 36):=⟨_,rfl⟩
 have hb:Below w.heap.size w W:=by rw [hW];exact below_one w _
 have hz:W.heap.size = w.heap.size + 1:=by rw [hW,World.size_alloc]
 have hn:W.heap[w.heap.size]? = some (.cells #[.string (str hd.name),av,.string (str hd.text),kv] 36 (0,0)):=by rw [hW];exact heap_alloc_new w _
 rw [<- hW];have h2:=h.kept hb;have hs:∀ x,C x -> C x \/ x = w.heap.size:=fun x hx=>.inl hx
 have hCk:∀ x,C x -> W.heap[x]? = w.heap[x]?:=fun x hx=>hb.block x (h.ps.typ x hx).2.1
 refine ⟨h2.row,⟨fun q hq=>(h2.ps.attrs q hq).mono (fun _ _=>rfl) hs,fun q hq=>(h2.ps.kids q hq).widen hs (fun k e=>?_),h2.ps.tails,h2.ps.lefts,h2.ps.ins,h2.ps.kap,h2.ps.tap,h2.ps.lap,fun x hx=>?_,h2.ps.base,h2.ps.below,h2.ps.size,fun q hq=>?_⟩⟩
 ·rintro (hc | hc)
  ·exact (h2.ps.kids q hq).out k e hc
  ·have:=((h.ps.kids q hq).row.lt k e).2;omega
 ·rcases hx with hx | hx
  ·exact h2.ps.typ x hx
  ·subst hx;refine ⟨h.ps.size,by omega,fun cur T fz e=>?_⟩;rw [hn] at e;injection e with e;injection e with _ e;exact .inl e.symm
 ·rcases List.mem_cons.1 hq with rfl | hq
  ·refine ⟨⟨.inl ⟨rfl,rfl⟩,fun a n c e=>(by cases e)⟩,.inr ⟨⟨w.heap.size,0,none⟩,1,rfl,Nat.le_refl _,by unfold maxLen;omega,?_⟩⟩;refine ⟨.inr rfl,?_,?_,⟨av,?_,ha.mono hCk hs⟩,⟨kv,?_,hk.mono hCk hs⟩,trivial⟩
   all_goals
    first
     |(show W.cell? ⟨w.heap.size,0,none⟩ = _;rw [Lib.cell_of_heap hn];rfl)
     |(show W.cell? ⟨w.heap.size,1,none⟩ = _;rw [Lib.cell_of_heap hn];rfl)
     |(show W.cell? ⟨w.heap.size,2,none⟩ = _;rw [Lib.cell_of_heap hn];rfl)
     |(show W.cell? ⟨w.heap.size,3,none⟩ = _;rw [Lib.cell_of_heap hn];rfl)
  ·exact ⟨(h2.ps.hand q hq).1.mono (fun _ _=>rfl) hs,(h2.ps.hand q hq).2.mono (fun _ _=>rfl) hs⟩
theorem WS.boxed {C:Nat -> Prop} {B:Nat} {X:List KidV} {r:Value} {st:List PartW} {W0 w:World} {hd:NdH} {K:Tr} {k:Nat} (h:WS C B (boxK hd K k :: X) r st W0 w) :
  ∃ av kv,w.cell? ⟨k,0,none⟩ = some (.string (str hd.name)) /\ w.cell? ⟨k,1,none⟩ = some av /\ w.cell? ⟨k,2,none⟩ = some (.string (str hd.text)) /\ w.cell? ⟨k,3,none⟩ = some kv /\ AttrsC C w av hd.attrs /\ NodesC C w kv K:=by
 have h2:=(h.ps.hand _ (List.mem_cons_self ..)).2;rcases h2 with ⟨h0,_⟩ | ⟨a,c,e,_,_,hA⟩
 ·cases h0
 ·have e:Value.slice (some ⟨k,0,none⟩) 1 1 = .slice (some a) _ c:=e;injection e with e _ _;injection e with e;subst e;obtain ⟨_,n1,n2,⟨u,n3,n4⟩,⟨v,n5,n6⟩,_⟩:=hA;exact ⟨u,v,n1,n3,n2,n5,n4,n6⟩
def AddW (p:PartW) (q:NdH × Tr) (p':PartW):Prop:=p'.name = p.name /\ p'.attrs = p.attrs /\ p'.left = p.left /\ p'.kids.map Prod.fst = wEnd p.toW ++ [q] /\ p'.tail = []
theorem addW_any (C : Nat → Prop) (X : List KidV) (B g cap : Nat) (p : PartW) (rest : List PartW) (W0 w : World) (h : WS C B X (.slice (some ⟨g, 0, none⟩) (rest.length + 1) cap) (p :: rest) W0 w) (hd : NdH) (K : Tr) (av kv : Value) (hav : AttrsC C w av hd.attrs) (hkv0 : NodesC C w kv K) (hl : rest.length ≤ 1048576) (hk : p.kids.length ≤ 1000000) (ht : p.tail.length ≤ 70368744177664) :
    Calls Tryz.prog 42 #[.pointer (some ⟨g, rest.length * 6, none⟩), .agg #[.string (str hd.name), av, .string (str hd.text), kv]] w fun e w' => e = .returned (.tuple #[]) ∧
      ∃ C' p', WS C' B X (.slice (some ⟨g, 0, none⟩) (rest.length + 1) cap) (p' :: rest) W0 w' ∧ AddW p (hd, K) p' := by
  obtain ⟨Aa, ca, ea⟩ := hav.1.form
  obtain ⟨Ak, ck, ek⟩ := hkv0.form
  have hbx := h.box hd K av kv hav hkv0
  obtain ⟨C', hC'⟩ : ∃ C' : Nat → Prop, C' = fun x => C x ∨ x = w.heap.size := ⟨_, rfl⟩
  rw [← hC'] at hbx
  obtain ⟨nm, hnm⟩ : ∃ nm, nm = str hd.name := ⟨_, rfl⟩
  obtain ⟨tx, htx⟩ : ∃ tx, tx = str hd.text := ⟨_, rfl⟩
  subst ea ek
  rw [← hnm, ← htx] at hbx ⊢
  obtain ⟨W, hW⟩ : ∃ W, W = w.alloc (.cells #[.string nm, .slice Aa hd.attrs.length ca, .string tx, .slice Ak K.len ck] 36) := ⟨_, rfl⟩
  rw [← hW] at hbx
  have HE := hide (endTextW_any C' _ B g cap p rest W0 W hbx hl (by omega) ht)
  have HN := hide (And.intro hnm htx)
  have HK := hide hk
  have HSZ : Hid (p.kids.length ≤ 1000000) := hide hk
  have HW := hide hW
  clear h hav hkv0 hbx hC' hnm htx hk ht hl hW
  go_enter Tryz.func42, Tryz.ntmps42
  go_wp2_with fail
  rw [← HW.out]
  refine HE.out.mono ?_
  rintro e w1 ⟨rfl, p1, hb1, hp1⟩
  obtain ⟨e0, e1, e2, e3, e4, e5, ef⟩ := hb1.cells
  obtain ⟨av, kv, b0, b1, b2, b3, hav, hkv0⟩ := hb1.boxed
  rw [← HN.out.1] at b0
  rw [← HN.out.2] at b2
  obtain ⟨Aa2, ca2, ea⟩ := hav.1.form
  obtain ⟨Ak2, ck2, ek⟩ := hkv0.form
  subst ea ek
  obtain ⟨KA, KC, hkv⟩ := own_any (hb1.ps.kids p1 (List.mem_cons_self ..)).row
  rw [hkv] at e3
  have hkl : p1.kids.length ≤ 1000001 := by
    have h1 := congrArg List.length hp1.2.2.2.1
    rw [List.length_map] at h1
    have h2 : (wEnd p.toW).length ≤ p.kids.length + 1 := by
      unfold wEnd PartW.toW
      split
      · simp
      · simp
    have := HK.out
    omega
  obtain ⟨k, hkz⟩ : ∃ k, k = w.heap.size := ⟨_, rfl⟩
  rw [← hkz] at b0 b1 b2 b3 hb1 ⊢
  have HH := hide hb1
  have HP1 := hide hp1
  have HKV := hide hkv
  have HQ := hide (And.intro hav hkv0)
  have HKL := hide hkl
  have hbox : Hid (C' k) := hide (by
    rcases (hb1.ps.hand _ (List.mem_cons_self ..)).2 with ⟨h0, _⟩ | ⟨a, c, e, _, _, hA⟩
    · cases h0
    · have e : Value.slice (some ⟨k, 0, none⟩) 1 1 = .slice (some a) _ c := e
      injection e with e _ _
      injection e with e
      subst e
      exact hA.1)
  clear hb1 hp1 hkv hav hkv0 hkl HK HSZ e0 e1 e2 e4 e5 hkz HE HW
  have HOWN : Hid (∀ W, Below w1.heap.size w1 W → W.ownsRow B 36 4 (.slice KA p1.kids.length KC) p1.kids.length (nodeVals p1.kids)) := hide fun W hW => by
    have := ((HH.out.kept hW).ps.kids p1 (List.mem_cons_self ..)).row
    rw [HKV.out] at this; exact this
  have e3a : ∀ ob, (w1.alloc ob).cell? ⟨g, rest.length * 6 + 3, none⟩ = some (.slice KA p1.kids.length KC) := fun ob => ((below_one w1 ob).cell (World.block_lt_of_cell? _ _ e3)).trans e3
  have b0a : ∀ ob, (w1.alloc ob).cell? ⟨k, 0, none⟩ = some (.string nm) := fun ob => ((below_one w1 ob).cell (World.block_lt_of_cell? _ _ b0)).trans b0
  have b1a : ∀ ob, (w1.alloc ob).cell? ⟨k, 1, none⟩ = some (.slice Aa2 hd.attrs.length ca2) := fun ob => ((below_one w1 ob).cell (World.block_lt_of_cell? _ _ b1)).trans b1
  have b2a : ∀ ob, (w1.alloc ob).cell? ⟨k, 2, none⟩ = some (.string tx) := fun ob => ((below_one w1 ob).cell (World.block_lt_of_cell? _ _ b2)).trans b2
  have b3a : ∀ ob, (w1.alloc ob).cell? ⟨k, 3, none⟩ = some (.slice Ak2 K.len ck2) := fun ob => ((below_one w1 ob).cell (World.block_lt_of_cell? _ _ b3)).trans b3
  have tn5 : ((p1.kids.length : Nat) : Int) < (p1.kids.length : Int) + 1 := by omega
  go_wp2_with fail
  all_goals
    go_region_law (first
      | (refine step_node0 rfl _ _ rfl B (.slice KA p1.kids.length KC) p1.kids rfl (HOWN.out _ ?_) ?_ ⟨w1.heap.size, 0, none⟩ rfl (node_row _ _ _ _ _).1 (node_row _ _ _ _ _).2.1 (node_row _ _ _ _ _).2.2.1 (node_row _ _ _ _ _).2.2.2 (by have := HKL.out; omega) ?_
         · exact ((Below.refl _ _).alloc (Nat.le_refl _) _).drew
         · exact Nat.le_trans HH.out.ps.size (((Below.refl w1.heap.size w1).alloc (Nat.le_refl _) _).drew).size
         intro g' cap' w2 ho2 hg2 hor2 hc2 hm2
         have HB1 := hide (HH.out.kept (((Below.refl w1.heap.size w1).alloc (Nat.le_refl _) (.cells #[.string ⟨#[]⟩, .slice none 0 0, .string ⟨#[]⟩, .slice none 0 0] 36)).drew))
         have hg3 := hg2
         rw [← HKV.out] at hg3 hor2
         obtain ⟨n1, n2, ⟨n3, n4, n5, n6⟩, n7, n8⟩ := wash_facts HB1.out ho2 hg3 hor2
         have n9 : w2.cell? ⟨g, rest.length * 6 + 3, none⟩ = some (.slice KA p1.kids.length KC) := (n8 _).trans (e3a _)
         have hkb : ∀ i, w2.cell? ⟨k, i, none⟩ = (w1.alloc (.cells #[.string ⟨#[]⟩, .slice none 0 0, .string ⟨#[]⟩, .slice none 0 0] 36)).cell? ⟨k, i, none⟩ := fun i => World.cell?_of_block (hg3.block k (HB1.out.ps.typ k hbox.out).2.1 (fun e => (HB1.out.ps.kids p1 (List.mem_cons_self ..)).out k e.symm hbox.out))
         have m0 := (hkb 0).trans (b0a _)
         have m1 := (hkb 1).trans (b1a _)
         have m2 := (hkb 2).trans (b2a _)
         have m3 := (hkb 3).trans (b3a _)
         have n11 : ¬ (g = g') := fun e => n1 e.symm
         have HO2 := hide ho2
         have HG2 := hide hg3
         have HOR := hide hor2
         clear ho2 hg2 hg3 hor2 hc2 hm2 n8 hkb))
  all_goals
    first | rw [kid_comm w2 n11] | skip
    have hb2 := HB1.out.kidWritten (q := ((hd, K), (.slice Aa2 hd.attrs.length ca2, .slice Ak2 K.len ck2))) HO2.out HG2.out HOR.out ⟨HQ.out.1.mono (fun x hx => (((Below.refl w1.heap.size w1).alloc (Nat.le_refl _) _).drew).block x (HH.out.ps.typ x hx).2.1) (fun _ x => x), HQ.out.2.mono (fun x hx => (((Below.refl w1.heap.size w1).alloc (Nat.le_refl _) _).drew).block x (HH.out.ps.typ x hx).2.1) (fun _ x => x)⟩
    simp only [← HN.out.1, ← HN.out.2] at hb2
    have HB3 := hide (hb2.hands (Y := X) (fun q hq => List.mem_cons_of_mem _ hq))
    clear hb2
    go_end0
    refine ⟨rfl, C', _, HB3.out, HP1.out.1, HP1.out.2.1, HP1.out.2.2.1, ?_, HP1.out.2.2.2.2⟩
    rw [← HP1.out.2.2.2.1]
    simp
def nextL:List Tr -> Option ((NdH × Tr) × List Tr)
  | []=>none
  | .nil :: r=>nextL r
  | .cons h K R :: r=>some ((h,K),R :: r)
def PartW.leftT (p:PartW):List Tr:=(p.left.map Prod.snd).reverse
theorem WP.free {C:Nat -> Prop} {B k:Nat} {X:List KidV} {st:List PartW} {W0 w w':World} (h:WP C B X st W0 w) (hg:w.grownBy w' (some k)) (hB:B <= k) (hC:¬ C k) (hf:∀ p ∈ st,p.kv.ownBlock ≠ some k) {cs:Array Value} (hk:w.heap[k]? = some (.cells cs 36 (0,0))):WP C B X st W0 w':=by
 have hCk:∀ x,C x -> w'.heap[x]? = w.heap[x]?:=fun x hx=>hg.block x (h.typ x hx).2.1 (fun e=>hC (by injection e with e;exact e ▸ hx))
 have hown:∀ {e:TypeId} {sz m:Nat} {v:Value} {xs:List Value},e ≠ 36 -> w.ownsRow B e sz v m xs -> w'.ownsRow B e sz v m xs:=fun {e sz m v xs} hne ho=>ho.kept hg (.inr (ownsRow_other ho (fun cur hx=>by
  rw [hk] at hx;injection hx with hx;injection hx with _ hx;exact hne hx.symm)))
 exact ⟨fun q hq=>(h.attrs q hq).mono hCk (fun _ x=>x),fun q hq=>⟨(h.kids q hq).row.kept hg (.inr (hf q hq)),fun y hy=>⟨((h.kids q hq).each y hy).1.mono hCk (fun _ x=>x),((h.kids q hq).each y hy).2.mono hCk (fun _ x=>x)⟩,(h.kids q hq).out⟩,
  fun q hq=>hown (by decide) (h.tails q hq),fun q hq=>hown (by decide) (h.lefts q hq),h.ins,h.kap,h.tap,h.lap,fun g hC=>⟨(h.typ g hC).1,Nat.lt_of_lt_of_le (h.typ g hC).2.1 hg.size,by rw [hCk g hC];exact (h.typ g hC).2.2⟩,h.base,h.below.grown hg h.size (fun k2 e=>by injection e with e;omega),Nat.le_trans h.size hg.size,fun q hq=>⟨(h.hand q hq).1.mono hCk (fun _ x=>x),(h.hand q hq).2.mono hCk (fun _ x=>x)⟩⟩
theorem WS.free {C:Nat -> Prop} {B k:Nat} {X:List KidV} {r:Value} {st:List PartW} {W0 w w':World} (h:WS C B X r st W0 w) (hg:w.grownBy w' (some k)) (hB:B <= k) (hC:¬ C k) (hf:∀ p ∈ st,p.kv.ownBlock ≠ some k) {cs:Array Value} (hk:w.heap[k]? = some (.cells cs 36 (0,0))):WS C B X r st W0 w' :=
 ⟨h.row.kept hg (.inr (ownsRow_other h.row (fun cur hx=>by
  rw [hk] at hx;injection hx with hx;injection hx with _ hx;exact absurd hx (by decide)))),h.ps.free hg hB hC hf hk⟩
theorem grown_four (w:World) (k:Nat) (a b c d:Value):w.grownBy ((((w.setCell ⟨k,0,none⟩ a).setCell ⟨k,1,none⟩ b).setCell ⟨k,2,none⟩ c).setCell ⟨k,3,none⟩ d) (some k) :=
 ⟨rfl,rfl,rfl,by simp [World.setCell],fun x _ hx=>by
  have hne:∀ (W:World) (i:Nat) (u:Value),(W.setCell ⟨k,i,none⟩ u).heap[x]? = W.heap[x]?:=fun W i u=>Below.heap_setCell W ⟨k,i,none⟩ u x (fun e=>hx (by rw [e]))
  rw [hne,hne,hne,hne]⟩
theorem heap_four {w:World} {k:Nat} {a0 b0 c0 d0:Value} {T:TypeId} (h:w.heap[k]? = some (.cells #[a0,b0,c0,d0] T (0,0))) (a b c d:Value):((((w.setCell ⟨k,0,none⟩ a).setCell ⟨k,1,none⟩ b).setCell ⟨k,2,none⟩ c).setCell ⟨k,3,none⟩ d).heap[k]? = some (.cells #[a,b,c,d] T (0,0)):=by
 rw [heap_put0 (heap_put0 (heap_put0 (heap_put0 h a) b) c) d];rfl
theorem results_cell_row2 {fn:Func} {p u:Tmp} {ty:TypeId} {P:Program} (h:fn.results = #[.cell p ty,.tmp u]) (tmps:Array Value) (w:World) (g:Nat) (cs:Array Value)
  (hp:tmps.getD p undef = .pointer (some ⟨g,0,none⟩)) (hl:(loadVar ty ⟨g,0,none⟩).run P w = .ok (.agg cs) w) :
  (results fn tmps).run P w = .ok (.tuple #[.agg cs,tmps.getD u undef]) w:=by
 have hp':tmps[p]?.getD undef = .pointer (some ⟨g,0,none⟩):=by simpa using hp
 rw [results_cell_tmp h];simp [hp',asAddr,hl,Result.andThen]
def NextW (C:Nat -> Prop) (B g cap:Nat) (X:List KidV) (p:PartW) (rest:List PartW) (W0:World) (e:Ending) (w':World):Option ((NdH × Tr) × List Tr) -> Prop
  | none=>e = .returned (.tuple #[.agg #[.string ⟨#[]⟩,.slice none 0 0,.string ⟨#[]⟩,.slice none 0 0],.bool false]) /\ ∃ p',WS C B X (.slice (some ⟨g,0,none⟩) (rest.length + 1) cap) (p' :: rest) W0 w' /\ p' = { p with left:=[],lv:=p'.lv }
  | some ((hd,K),l)=>∃ av kv p',e = .returned (.tuple #[.agg #[.string (str hd.name),av,.string (str hd.text),kv],.bool true]) /\ AttrsIn W0 av hd.attrs /\ NodesIn W0 kv K /\ WS C B X (.slice (some ⟨g,0,none⟩) (rest.length + 1) cap) (p' :: rest) W0 w' /\ p' = { p with left:=p'.left,lv:=p'.lv } /\ p'.leftT = l
theorem nodes_head {w:World} {v:Value} {h:NdH} {K R:Tr} (hT:NodesIn w v (.cons h K R)):∃ a c av kv,v = .slice (some a) (R.len + 1) c /\ R.len + 1 <= c /\ c <= maxLen /\ w.cell? a = some (.string (str h.name)) /\ w.cell? (a.add 1) = some av /\ w.cell? (a.add 2) = some (.string (str h.text)) /\ w.cell? (a.add 3) = some kv /\ AttrsIn w av h.attrs /\ NodesIn w kv K /\ NodesIn w (.slice (some (a.add 4)) R.len (c - 1)) R:=by
 rcases hT with ⟨_,h0⟩ | ⟨a,c,e,h1,h2,hA⟩
 ·cases h0
 ·obtain ⟨_,n1,n2,⟨u,n3,n4⟩,⟨kv,n5,n6⟩,n7⟩:=hA;have hl:(Tr.cons h K R).len = R.len + 1:=rfl;rw [hl] at e h1;refine ⟨a,c,u,kv,e,h1,h2,n1,n3,n2,n5,n4.1,n6,.inr ⟨a.add 4,c - 1,rfl,by omega,by omega,n7⟩⟩
def NextI (C:Nat -> Prop) (B g cap k:Nat) (X:List KidV) (p:PartW) (rest:List PartW) (W0:World) (F:Option ((NdH × Tr) × List Tr)) (gk:Nat) (wr:World):Prop :=
  ∃ p',WS C B X (.slice (some ⟨g,0,none⟩) (rest.length + 1) cap) (p' :: rest) W0 wr /\ p' = { p with left:=p'.left,lv:=p'.lv } /\ p'.left.length = gk /\ nextL p'.leftT = F /\
    wr.heap[k]? = some (.cells #[.string ⟨#[]⟩,.slice none 0 0,.string ⟨#[]⟩,.slice none 0 0] 36 (0,0))
theorem leftT_snoc {p:PartW} {pre:List (Value × Tr)} {v:Value} {T:Tr} (h:p.left = pre ++ [(v,T)]):p.leftT = T :: (pre.map Prod.snd).reverse:=by
 unfold PartW.leftT;rw [h,List.map_append,List.reverse_append];rfl
theorem nextW_any (C:Nat -> Prop) (X:List KidV) (B g cap:Nat) (p:PartW) (rest:List PartW) (W0 w:World) (h:WS C B X (.slice (some ⟨g,0,none⟩) (rest.length + 1) cap) (p :: rest) W0 w) (hk:p.left.length <= 1000000) :
  Calls Tryz.prog 39 #[.pointer (some ⟨g,rest.length * 6,none⟩)] w fun e w'=>NextW C B g cap X p rest W0 e w' (nextL p.leftT):=by
 obtain ⟨F,hF⟩:∃ F,F = nextL p.leftT:=⟨_,rfl⟩
 obtain ⟨k,hkz⟩:∃ k,k = w.heap.size:=⟨_,rfl⟩
 have hfree:∀ q ∈ p :: rest,q.kv.ownBlock ≠ some k:=fun q hq e=>by have:=((h.ps.kids q hq).row.lt k e).2;omega
 have HKF:Hid (B <= k /\ ¬ C k /\ k ≠ g /\ ∀ q ∈ p :: rest,q.kv.ownBlock ≠ some k):=hide ⟨by rw [hkz];exact h.ps.size,fun hc=>by have:=(h.ps.typ k hc).2.1;omega,fun e=>by
  obtain ⟨g0,c0,e0,_,_,_,hl⟩:=h.form (by simp);injection e0 with e0 _ _;injection e0 with e0;injection e0 with e0;omega,hfree⟩
 have HS:Hid (NextI C B g cap k X p rest W0 F p.left.length (w.alloc (.cells #[.string ⟨#[]⟩,.slice none 0 0,.string ⟨#[]⟩,.slice none 0 0] 36))):=hide ⟨p,h.kept (below_one w _),rfl,rfl,hF.symm,by rw [hkz];exact heap_alloc_new w _⟩;have HK:=hide hk;rw [<- hF];obtain ⟨W,hW⟩:∃ W,W = w.alloc (.cells #[.string ⟨#[]⟩,.slice none 0 0,.string ⟨#[]⟩,.slice none 0 0] 36):=⟨_,rfl⟩
 rw [<- hW] at HS;have HW:=hide hW;have HKZ:=hide hkz;clear h hk hF hfree hW hkz;go_enter Tryz.func39,Tryz.ntmps39;go_wp2_with fail;rw [<- HW.out,<- HKZ.out];clear HW;go_loopg [4,5] p.left.length (fun gk u4 u5 wr=>gk <= 1000000 /\ Hid (NextI C B g cap k X p rest W0 F gk wr))
 case atStart=>exact ⟨HK.out,HS⟩
 case round =>
  obtain ⟨hgk,HR⟩:=hrel;obtain ⟨p',hb,hp',hlen,hnx,hbk⟩:=HR.out;obtain ⟨LA,LC,hlv⟩:=own_any (hb.ps.lefts p' (List.mem_cons_self ..));obtain ⟨e0,e1,e2,e3,e4,e5,ef⟩:=hb.cells;rw [hlv,hlen] at e5;have HB:=hide hb;have HP:=hide hp';have HLN:=hide hlen;have HNX:=hide hnx;have k0:wr.cell? ⟨k,0,none⟩ = some (.string ⟨#[]⟩):=by rw [Lib.cell_of_heap hbk];rfl
  have k1:wr.cell? ⟨k,1,none⟩ = some (.slice none 0 0):=by rw [Lib.cell_of_heap hbk];rfl
  have k2:wr.cell? ⟨k,2,none⟩ = some (.string ⟨#[]⟩):=by rw [Lib.cell_of_heap hbk];rfl
  have k3:wr.cell? ⟨k,3,none⟩ = some (.slice none 0 0):=by rw [Lib.cell_of_heap hbk];rfl
  have kf:∀ i,wr.frozen? ⟨k,i,none⟩ = false:=fun i=>Lib.frozen_of_heap hbk i
  cases gk with
  | zero =>
   have hl0:p'.left = []:=List.eq_nil_of_length_eq_zero hlen;have HE:Hid (F = none /\ p' = { p with left:=[],lv:=p'.lv }):=hide ⟨by rw [<- hnx];unfold PartW.leftT;rw [hl0];rfl,by rw [<- hl0];exact hp'⟩;have HBK:=hide hbk;clear hb hp' hlv hnx hlen hl0 e0 e1 e2 e3 e4 ef hbk HR;go_wp2_with fail
   have hb4:=HB.out.free (grown_four wr k (.string ⟨#[]⟩) (.slice none 0 0) (.string ⟨#[]⟩) (.slice none 0 0)) HKF.out.1 HKF.out.2.1 (fun q hq=>by
    have:=HKF.out.2.2.2 p (List.mem_cons_self ..);rcases List.mem_cons.1 hq with rfl | hq
    ·rw [HE.out.2];exact this
    ·exact HKF.out.2.2.2 q (List.mem_cons_of_mem _ hq)) HBK.out
   have HB4:=hide hb4;have hk4:=heap_four HBK.out (.string ⟨#[]⟩) (.slice none 0 0) (.string ⟨#[]⟩) (.slice none 0 0);clear hb4
   (try simp only [Exit.inBlock,Exit.then])
   refine bodyPost_ret (results_cell_row2 rfl _ _ k _ rfl (run_loadVar_row _ k _ _ _ _ _ hk4 Tryz.underlying36 rfl (by kernel_rfl))) rfl ?_;rw [HE.out.1];exact ⟨rfl,p',HB4.out,HE.out.2⟩
  | succ gk =>
   obtain ⟨pre,⟨v,T⟩,hpre⟩:∃ pre q,p'.left = pre ++ [q]:=by
    rcases List.eq_nil_or_concat p'.left with h0 | ⟨l,q,h0⟩
    ·rw [h0] at hlen;cases hlen
    ·exact ⟨l,q,by rw [h0,List.concat_eq_append]⟩
   have hpl:pre.length = gk:=by rw [hpre,List.length_append] at hlen;simpa using hlen
   have hin:=hb.ps.ins p' (List.mem_cons_self ..) (v,T) (by rw [hpre];exact List.mem_append.2 (.inr (List.mem_singleton.2 rfl)));have hrow:=hb.ps.lefts p' (List.mem_cons_self ..)
   obtain ⟨gl,hla⟩:∃ gl,LA = some ⟨gl,0,none⟩:=by
    rcases hrow.2 with ⟨_,h0⟩ | ⟨g',cap',cur,hv,_⟩
    ·omega
    ·rw [hlv] at hv;injection hv with hv _ _;exact ⟨g',hv⟩
   subst hla;rw [hlv] at hrow
   have hcell:wr.cell? ⟨gl,gk,none⟩ = some v:=by
    rw [hrow.cellAt _ (by rw [hlen];omega),hpre,List.map_append,List.getElem?_append_right (by rw [List.length_map];omega),List.length_map,hpl,Nat.sub_self];rfl
   have hfz:wr.frozen? ⟨gl,gk,none⟩ = false:=hrow.frozenAt gk
   have hgl:gl ≠ g:=fun e=>by
    have:=ownsRow_other hrow (r:=g) (fun cur=>hb.out.2.2 cur _ (by decide));exact this (by rw [e];rfl)
   have hcap:gk + 1 <= LC:=by
    rcases hrow.2 with ⟨h0,_⟩ | ⟨g',cap',cur,hv,_,_,hc,_⟩
    ·cases h0
    ·injection hv with _ _ hv;rw [hlen] at hc;omega
   have t3:(gk:Int) <= (LC:Int):=by omega
   have HROW:=hide hrow;have hlt:=leftT_snoc hpre;rw [hlt] at hnx;rw [hlen] at hlv;have HLV:=hide hlv;have HPRE:=hide hpre;have HIN:=hide hin;have HPL:=hide hpl;have tw:wrap64 (((gk + 1:Nat):Int) - 1) = (gk:Int):=by unfold wrap64;omega
   have t1:(0:Int) <= (gk:Int):=by omega
   have t2:(gk:Int) < ((gk + 1:Nat):Int):=by omega
   cases T with
   | nil =>
    obtain ⟨VA,VC,hv⟩:=NodesC.form hin;have hv:v = .slice VA 0 VC:=hv;subst hv;have HNX2:Hid (nextL (pre.map Prod.snd).reverse = F):=hide hnx;have HBK:=hide hbk;have hgk2:gk <= 1000000:=by omega
    clear hb hp' hlv hnx hlen hpre hin hrow hpl hlt e0 e1 e2 e3 e4 hbk HR hgl k0 k1 k2 k3 kf hcap HNX;go_wp2_with fail;go_roundg gk
    case rel =>
     have hb5:=HB.out.lessLeft HPRE.out (by rw [HPL.out];exact HLV.out);rw [HPL.out] at hb5;refine ⟨hgk2,hide ⟨_,hb5,?_,HPL.out,HNX2.out,?_⟩⟩
     ·rw [HP.out]
     ·rw [Below.heap_setCell wr ⟨g,rest.length * 6 + 5,none⟩ _ k (fun e=>HKF.out.2.2.1 e)];exact HBK.out
    case measure=>omega
   | cons hd K R =>
    obtain ⟨a,c,av,kv,hv,c1,c2,n0,n1,n2,n3,na,nk,nr⟩:=nodes_head hin;have hv:v = .slice (some a) (R.len + 1) c:=hv;subst hv;obtain ⟨Aa,ca,ea⟩:=na.form;obtain ⟨Ak,ck,ek⟩:=nk.form;subst ea ek;obtain ⟨V,hV⟩:∃ V,V = Value.slice (if c = 1 then some a else some { block:=a.block,off:=a.off + 4 }) R.len (c - 1):=⟨_,rfl⟩
    have nr2:NodesIn W0 V R:=by
     rw [hV]
     by_cases h1:c = 1
     ·subst h1;cases R with
      | nil=>exact .inr ⟨a,0,rfl,Nat.le_refl _,Nat.zero_le _,trivial⟩
      | cons _ _ R2=>have:(Tr.cons _ _ R2).len + 1 <= 1:=c1;simp [Tr.len] at this
     ·rw [if_neg h1];exact nr
    have hb6:=(hb.nextLeft hpre (by rw [hpl];exact hlv) (q':=(V,R)) nr2).kept (Below.refl _ _).drew;rw [hpl] at hb6;obtain ⟨w7,hw7⟩:∃ w7,w7 = (wr.setCell ⟨gl,gk,none⟩ V).drew:=⟨_,rfl⟩
    simp only at hb6;rw [<- hw7] at hb6;have hbl:Below W0.heap.size W0 w7:=hb6.ps.below.mono hb6.ps.base;have m0:=(hbl.cell (World.block_lt_of_cell? _ _ n0)).trans n0;have m1:=(hbl.cell (World.block_lt_of_cell? _ _ n1)).trans n1;have m2:=(hbl.cell (World.block_lt_of_cell? _ _ n2)).trans n2;have m3:=(hbl.cell (World.block_lt_of_cell? _ _ n3)).trans n3;replace m1:w7.cell? { block:=a.block,off:=a.off + 1 } = some (.slice Aa hd.attrs.length ca):=m1;replace m2:w7.cell? { block:=a.block,off:=a.off + 2 } = some (.string (str hd.text)):=m2;replace m3:w7.cell? { block:=a.block,off:=a.off + 3 } = some (.slice Ak K.len ck):=m3
    have hkgl:k ≠ gl:=fun e=>by
     have:=ownsRow_other hrow (r:=k) (fun cur hx=>by
      rw [hbk] at hx;injection hx with hx;injection hx with _ hx;exact absurd hx (by decide))
     exact this (by rw [e];rfl)
    have hbk7:w7.heap[k]? = some (.cells #[.string ⟨#[]⟩,.slice none 0 0,.string ⟨#[]⟩,.slice none 0 0] 36 (0,0)):=by
     rw [hw7];show (wr.setCell ⟨gl,gk,none⟩ V).heap[k]? = _
     rw [Below.heap_setCell wr ⟨gl,gk,none⟩ V k hkgl];exact hbk
    have x0:w7.cell? ⟨k,0,none⟩ = some (.string ⟨#[]⟩):=by rw [Lib.cell_of_heap hbk7];rfl
    have x1:w7.cell? ⟨k,1,none⟩ = some (.slice none 0 0):=by rw [Lib.cell_of_heap hbk7];rfl
    have x2:w7.cell? ⟨k,2,none⟩ = some (.string ⟨#[]⟩):=by rw [Lib.cell_of_heap hbk7];rfl
    have x3:w7.cell? ⟨k,3,none⟩ = some (.slice none 0 0):=by rw [Lib.cell_of_heap hbk7];rfl
    have xf:∀ i,w7.frozen? ⟨k,i,none⟩ = false:=fun i=>Lib.frozen_of_heap hbk7 i
    have HBK7:=hide hbk7;have HV:=hide hV;have HW7:=hide hw7;have t5:(1:Int) <= ((R.len + 1:Nat):Int):=by omega
    have t6:decide ((0:Int) < ((R.len + 1:Nat):Int)) = true:=decide_eq_true (by omega);have HB6:=hide hb6;have HIN2:=hide (And.intro na nk);have HNX2:=hide hnx;clear hb hp' hlv hnx hlen hpre hin hrow hpl hlt e0 e1 e2 e3 e4 hbk HR hcap HNX hb6 hbl n0 n1 n2 n3 na nk nr nr2 hV hw7 hbk7 hkgl k0 k1 k2 k3 kf;go_wp2_with fail;go_region
    rw [<- HV.out,<- HW7.out];clear e5 ef;go_wp2_with fail
    have hb8:=HB6.out.free (grown_four w7 k (.string (str hd.name)) (.slice Aa hd.attrs.length ca) (.string (str hd.text)) (.slice Ak K.len ck)) HKF.out.1 HKF.out.2.1 (fun q hq=>by
     have:=HKF.out.2.2.2 p (List.mem_cons_self ..);rcases List.mem_cons.1 hq with rfl | hq
     ·show p'.kv.ownBlock ≠ some k
      rw [HP.out];exact this
     ·exact HKF.out.2.2.2 q (List.mem_cons_of_mem _ hq)) HBK7.out
    have HB8:=hide hb8;have hk8:=heap_four HBK7.out (.string (str hd.name)) (.slice Aa hd.attrs.length ca) (.string (str hd.text)) (.slice Ak K.len ck);clear hb8
    (try simp only [Exit.inBlock,Exit.then])
    refine bodyPost_ret (results_cell_row2 rfl _ _ k _ rfl (run_loadVar_row _ k _ _ _ _ _ hk8 Tryz.underlying36 rfl (by kernel_rfl))) rfl ?_;rw [<- HNX2.out];refine ⟨_,_,_,rfl,HIN2.out.1,HIN2.out.2,HB8.out,?_,?_⟩
    ·show ({ p' with left:=_ }:PartW) = _
     rw [HP.out]
    ·show ((pre ++ [(V,R)]).map Prod.snd).reverse = _
     rw [List.map_append,List.reverse_append];rfl
section
variable (void:List UInt8 -> Bool) (rem sty:Bool) (F:List FileL) (lk:Bool)
def nodeWs (h:NdH) (K:Tr) (s:WashL):WashL :=
  if h.name = [] then wTxt s (validL h.text)
  else if elemN h.name = 0 then s
  else if elemN h.name = 1 \/ (h.name = wn_a /\ lk = true) then washL void rem sty F lk K s
  else if h.name = wn_a then wAdd s (linkW rem sty F h,Tr.of (wEnd (washL void rem sty F true K ([],[]))))
  else if h.name = wn_img then wPic rem sty F h s
  else if void h.name = true then wAdd s (elemW rem sty F h,.nil)
  else wAdd s (elemW rem sty F h,Tr.of (wEnd (washL void rem sty F lk K ([],[]))))
theorem washL_cons (h:NdH) (K R:Tr) (s:WashL):washL void rem sty F lk (.cons h K R) s = washL void rem sty F lk R (nodeWs void rem sty F lk h K s):=rfl
def washLs:List Tr -> WashL -> WashL
  | [],s=>s
  | T :: r,s=>washLs r (washL void rem sty F lk T s)
theorem washLs_none {l:List Tr} (h:nextL l = none) (s:WashL):washLs void rem sty F lk l s = s:=by
 induction l with
 | nil=>rfl
 | cons T r ih =>
  cases T with
  | nil=>exact ih h
  | cons _ _ _=>cases h
theorem washLs_some {l l':List Tr} {h:NdH} {K:Tr} (e:nextL l = some ((h,K),l')) (s:WashL):washLs void rem sty F lk l s = washLs void rem sty F lk l' (nodeWs void rem sty F lk h K s):=by
 induction l with
 | nil=>cases e
 | cons T r ih =>
  cases T with
  | nil=>exact ih e
  | cons h2 K2 R2 =>
   unfold nextL at e;injection e with e;injection e with e1 e2;injection e1 with e1 e3;subst e1 e3 e2;rfl
def finS:PartW -> List PartW -> WashL -> List Tr -> List (NdH × Tr)
  | _,[],s,l=>wEnd (washLs void rem sty F lk l s)
  | p,q :: rest,s,l=>finS q rest (wAdd q.toW (⟨p.name,p.attrs,[]⟩,Tr.of (wEnd (washLs void rem sty F lk l s)))) q.leftT
def finP:List PartW -> List (NdH × Tr)
  | []=>[]
  | p :: rest=>finS void rem sty F lk p rest p.toW p.leftT
theorem finS_same {p p':PartW} {rest:List PartW} {s s':WashL} {l l':List Tr} (h1:p'.name = p.name) (h2:p'.attrs = p.attrs) (h:washLs void rem sty F lk l' s' = washLs void rem sty F lk l s):finS void rem sty F lk p' rest s' l' = finS void rem sty F lk p rest s l:=by
 cases rest with
 | nil=>unfold finS;rw [h]
 | cons q rest=>unfold finS;rw [h,h1,h2]
end
def sumT:List Tr -> Nat
  | []=>0
  | T :: r=>T.count + sumT r
def weightS:List PartW -> Nat
  | []=>0
  | p :: rest=>2 * sumT p.leftT + 1 + weightS rest
theorem nextL_count {l l':List Tr} {h:NdH} {K:Tr} (e:nextL l = some ((h,K),l')):sumT l = 1 + K.count + sumT l':=by
 induction l with
 | nil=>cases e
 | cons T r ih =>
  cases T with
  | nil=>have:=ih e;show 0 + sumT r = _;omega
  | cons h2 K2 R2 =>
   unfold nextL at e;injection e with e;injection e with e1 e2;injection e1 with e1 e3;subst e1 e3 e2;show (1 + K2.count + R2.count) + sumT r = _ + (R2.count + sumT r)
   omega
def okW (h:NdH):Bool:=decide (h.attrs.length <= 1000000) && (h.attrs.all fun a=>decide (a.2.length <= 1000)) && decide (h.text.length <= 1000000)
theorem nextL_all {l l':List Tr} {h:NdH} {K:Tr} {f:NdH -> Bool} (e:nextL l = some ((h,K),l')) (ha:∀ T ∈ l,T.all f = true):f h = true /\ K.all f = true /\ ∀ T ∈ l',T.all f = true:=by
 induction l with
 | nil=>cases e
 | cons T r ih =>
  cases T with
  | nil=>exact ih e (fun T hT=>ha T (List.mem_cons_of_mem _ hT))
  | cons h2 K2 R2 =>
   unfold nextL at e;injection e with e;injection e with e1 e2;injection e1 with e1 e3;subst e1 e3 e2;have:=ha _ (List.mem_cons_self ..);simp only [Tr.all,Bool.and_eq_true] at this;refine ⟨this.1,this.2.1,fun T hT=>?_⟩;rcases List.mem_cons.1 hT with rfl | hT
   ·exact this.2.2
   ·exact ha T (List.mem_cons_of_mem _ hT)
def PartOK (k:Nat) (p:PartW):Prop:=p.kids.length <= 2 * k + 1 /\ p.left.length <= k + 1 /\ p.tail.length <= 3000010 * k /\ ∀ T ∈ p.leftT,T.all okW = true
theorem PartOK.more {k k':Nat} {p:PartW} (h:PartOK k p) (hk:k <= k'):PartOK k' p:=⟨by have:=h.1;omega,by have:=h.2.1;omega,by have:=h.2.2.1;omega,h.2.2.2⟩
theorem AddW.toW {p p':PartW} {q:NdH × Tr} (h:AddW p q p'):p'.toW = wAdd p.toW q:=by
 obtain ⟨_,_,_,h4,h5⟩:=h;show (p'.kids.map Prod.fst,p'.tail) = _
 rw [h4,h5];rfl
theorem AddW.left {p p':PartW} {q:NdH × Tr} (h:AddW p q p'):p'.leftT = p.leftT:=by
 unfold PartW.leftT;rw [h.2.2.1]
theorem AddW.kids {p p':PartW} {q:NdH × Tr} (h:AddW p q p'):p'.kids.length <= p.kids.length + 2:=by
 have h1:=congrArg List.length h.2.2.2.1;rw [List.length_map] at h1
 have h2:(wEnd p.toW).length <= p.kids.length + 1:=by
  unfold wEnd PartW.toW;split
  ·simp
  ·simp
 rw [List.length_append] at h1;simp only [List.length_cons,List.length_nil] at h1;omega
theorem AddW.ok {k:Nat} {p p':PartW} {q:NdH × Tr} (h:AddW p q p') (hk:PartOK k p):PartOK (k + 1) p' :=
 ⟨by have:=h.kids;have:=hk.1;omega,by rw [h.2.2.1];have:=hk.2.1;omega,by rw [h.2.2.2.2];exact Nat.zero_le _,by rw [h.left];exact hk.2.2.2⟩
theorem size0 {t:ByteArray} (h:t.size = 0):t.data.toList = [] /\ t.toList.isEmpty = true:=by
 have e:t.data.toList = []:=List.eq_nil_of_length_eq_zero (by rw [toList_length];exact h);exact ⟨e,by rw [bytes_list,e];rfl⟩
theorem sizeP {t:ByteArray} (h:¬ t.size = 0):t.data.toList ≠ [] /\ t.toList.isEmpty = false:=by
 have hne:t.data.toList ≠ []:=fun e=>by have:=toList_length t;rw [e] at this;simp at this;omega
 refine ⟨hne,?_⟩;rw [bytes_list];cases h:t.data.toList with
 | nil=>exact absurd h hne
 | cons _ _=>rfl
theorem or32 (c:UInt8):bits .or .u8 (c.toNat:Int) 32 = ((c ||| 32).toNat:Int):=u8_all (p:=fun c=>bits .or .u8 (c.toNat:Int) 32 = ((c ||| 32).toNat:Int)) (by decide +kernel) c
def n31Tup:Lib.NumEnd Nat -> Value
  | .ok n=>.tuple #[.int .u64 n,.nilIface]
  | .syntax=>.tuple #[.int .u64 0,.iface 210 (.int .i64 2)]
  | .range=>.tuple #[.int .u64 2147483647,.iface 210 (.int .i64 1)]
theorem m31_ok {acc:Nat} {c:UInt8} {r:List UInt8} (h:48 <= c.toNat /\ c.toNat <= 57) (ha:acc <= 2147483647) (ho:acc * 10 + (c.toNat - 48) <= 2147483647):Lib.parseUintM 2147483647 acc (c :: r) = Lib.parseUintM 2147483647 (acc * 10 + (c.toNat - 48)) r:=by
 rw [Lib.parseUintM,if_pos h,if_neg (by omega),if_neg (by omega)]
theorem m31_over {acc:Nat} {c:UInt8} {r:List UInt8} (h:48 <= c.toNat /\ c.toNat <= 57) (ha:acc <= 2147483647) (ho:2147483647 < acc * 10 + (c.toNat - 48)):Lib.parseUintM 2147483647 acc (c :: r) = .range:=by
 rw [Lib.parseUintM,if_pos h,if_neg (by omega),if_pos (by omega)]
theorem m31_bad {acc:Nat} {c:UInt8} {r:List UInt8} (h:¬ (48 <= c.toNat /\ c.toNat <= 57)):Lib.parseUintM 2147483647 acc (c :: r) = .syntax:=by
 rw [Lib.parseUintM,if_neg h]
theorem iparse31_any (s : ByteArray) (w : World) (hs : s.size ≤ 1048576) (h0 : s.size ≠ 0) :
    Calls Tryz.prog 139 #[.string s, .int .i64 10, .int .i64 31] w fun e w' => e = .returned (n31Tup (Lib.parseUintM 2147483647 0 s.data.toList)) ∧ Below w.heap.size w w' := by
  have hemp : s.toList.isEmpty = false := (sizeP h0).2
  have hmv : IntKind.u64.wrap (IntKind.u64.wrap 2147483648 - 1) = 2147483647 := by
    rw [IntKind.wrap_u64, IntKind.wrap_u64]
    decide
  go_enter Tryz.func139, Tryz.ntmps139
  go_wp2_with (refine wpList_bytes rfl _ rfl s rfl ?_; intro cap w0 ha0; have HA0 := hide ha0; clear ha0)
  go_loopw [12, 13, 101] (fun un nv i wr => ∃ k n : Nat, un = .bool false ∧ k ≤ s.size ∧ i = .int .i64 k ∧ nv = .int .u64 n ∧ Hid (n ≤ 2147483647) ∧ Hid (Lib.parseUintM 2147483647 n (s.data.toList.drop k) = Lib.parseUintM 2147483647 0 s.data.toList) ∧ Hid (wr = w0)) (fun un nv i wr => s.size - (intOf i).toNat)
  case atStart => exact ⟨0, 0, rfl, Nat.zero_le _, rfl, rfl, hide (by decide), hide rfl, hide rfl⟩
  case round =>
    obtain ⟨k, n, rfl, hk, rfl, rfl, HP, HG, HW⟩ := hrel
    obtain rfl := HW.out
    by_cases hlt : k < s.size
    · have hst := HG.out
      rw [drop_cons s k hlt] at hst
      have c1 : wr.cell? ⟨w.heap.size, k, none⟩ = some (.int .u8 s[k].toNat) := HA0.out.cell k (by rw [toList_length]; exact hlt)
      by_cases g1 : 48 ≤ s[k].toNat ∧ s[k].toNat ≤ 57
      · have t1 : decide ((48 : Int) ≤ s[k].toNat) = true := decide_eq_true (by omega)
        have t2 : decide ((s[k].toNat : Int) ≤ 57) = true := decide_eq_true (by omega)
        have t3 : ((s[k].toNat : Int) == 95) = false := beq_eq_false_iff_ne.2 (by omega)
        have hp := HP.out
        by_cases ho : n * 10 + (s[k].toNat - 48) ≤ 2147483647
        · rw [m31_ok g1 hp ho] at hst
          obtain ⟨d, hd⟩ : ∃ d, s[k].toNat = 48 + d := ⟨s[k].toNat - 48, by omega⟩
          have hd2 : s[k].toNat - 48 = d := by omega
          rw [hd2] at hst ho
          have hdl : d < 10 := by omega
          have wd : IntKind.u8.wrap ((s[k].toNat : Int) - 48) = (d : Int) := by rw [hd]; rw [show ((48 + d : Nat) : Int) - 48 = d by omega]; exact IntWalk.u8_in _ (by omega)
          have HN : Hid (Lib.parseUintM 2147483647 (n * 10 + d) (s.data.toList.drop (k + 1)) = Lib.parseUintM 2147483647 0 s.data.toList) := hide hst
          have HB1 : Hid (n * 10 + d ≤ 2147483647) := hide ho
          have x0 : IntKind.u64.wrap (d : Int) = (d : Int) := IntWalk.u64_in _ (by omega)
          have x1 : IntKind.u64.wrap ((n : Int) * 10) = (n : Int) * 10 := IntWalk.u64_in _ (by omega)
          have x2 : IntKind.u64.wrap ((n : Int) * 10 + (d : Int)) = (n : Int) * 10 + d := IntWalk.u64_in _ (by omega)
          have x3 : decide ((n : Int) * 10 + (d : Int) < (n : Int) * 10) = false := decide_eq_false (by omega)
          have x4 : decide ((2147483647 : Int) < (n : Int) * 10 + (d : Int)) = false := decide_eq_false (by omega)
          have x5 : decide ((10 : Int) ≤ (d : Int)) = false := decide_eq_false (by omega)
          have x6 : decide ((1844674407370955162 : Int) ≤ (n : Int)) = false := decide_eq_false (by omega)
          clear hst hdl ho hp hd hd2 g1
          go_wp2_with fail
          go_roundw
          case rel => exact ⟨k + 1, n * 10 + d, rfl, by omega, by go_num, by first | rfl | simp, HB1, HN, by first | exact trivial | exact hide rfl⟩
          case measure => simp [intOf]; omega
        · rw [m31_over g1 hp (by omega)] at hst
          obtain ⟨d, hd⟩ : ∃ d, s[k].toNat = 48 + d := ⟨s[k].toNat - 48, by omega⟩
          have hd2 : s[k].toNat - 48 = d := by omega
          rw [hd2] at ho
          have hdl : d < 10 := by omega
          have wd : IntKind.u8.wrap ((s[k].toNat : Int) - 48) = (d : Int) := by rw [hd]; rw [show ((48 + d : Nat) : Int) - 48 = d by omega]; exact IntWalk.u8_in _ (by omega)
          have HR : Hid (Lib.parseUintM 2147483647 0 s.data.toList = .range) := hide hst.symm
          have x0 : IntKind.u64.wrap (d : Int) = (d : Int) := IntWalk.u64_in _ (by omega)
          have x1 : IntKind.u64.wrap ((n : Int) * 10) = (n : Int) * 10 := IntWalk.u64_in _ (by omega)
          have x2 : IntKind.u64.wrap ((n : Int) * 10 + (d : Int)) = (n : Int) * 10 + d := IntWalk.u64_in _ (by omega)
          have x3 : decide ((n : Int) * 10 + (d : Int) < (n : Int) * 10) = false := decide_eq_false (by omega)
          have x4 : decide ((2147483647 : Int) < (n : Int) * 10 + (d : Int)) = true := decide_eq_true (by omega)
          have x5 : decide ((10 : Int) ≤ (d : Int)) = false := decide_eq_false (by omega)
          have x6 : decide ((1844674407370955162 : Int) ≤ (n : Int)) = false := decide_eq_false (by omega)
          clear hst hdl ho hp hd hd2 g1
          go_wp2_with fail
          go_ret2
          exact ⟨by rw [HR.out]; rfl, HA0.out.below⟩
      · rw [m31_bad g1] at hst
        have HR : Hid (Lib.parseUintM 2147483647 0 s.data.toList = .syntax) := hide hst.symm
        clear hst
        have t1 : (decide ((48 : Int) ≤ s[k].toNat) && decide ((s[k].toNat : Int) ≤ 57)) = false := by
          cases q1 : decide ((48 : Int) ≤ s[k].toNat) with
          | false => rfl
          | true =>
            have := of_decide_eq_true q1
            rw [Bool.true_and]; exact decide_eq_false (by omega)
        obtain ⟨L, hL⟩ : ∃ L, (s[k] ||| 32).toNat = L := ⟨_, rfl⟩
        have ho : bits .or .u8 (s[k].toNat : Int) 32 = (L : Int) := by rw [or32, hL]
        have HC := hide (fun w1 => Tryz.internal_strconv_lower (s[k].toNat : Int) w1)
        rw [ho] at HC
        have hLl : L < 256 := by rw [← hL]; exact byte_lt _
        have hLd : 97 ≤ L → L ≤ 122 → 10 ≤ L - 87 := by omega
        have no : ∀ (P : Prop), P → P := fun _ h => h
        by_cases q1 : (48 : Int) ≤ s[k].toNat
        all_goals
          first
            | (have q1' : decide ((48 : Int) ≤ s[k].toNat) = true := decide_eq_true q1
               have q2' : decide ((s[k].toNat : Int) ≤ 57) = false := decide_eq_false (by omega))
            | (have q1' : decide ((48 : Int) ≤ s[k].toNat) = false := decide_eq_false q1)
          clear t1
          by_cases u : s[k].toNat = 95
          · have u' : ((s[k].toNat : Int) == 95) = true := by rw [beq_iff_eq]; omega
            have hL95 : L = 127 := by rw [← hL, show s[k] = 95 from UInt8.toNat_inj.1 u]; rfl
            have l1 : decide ((97 : Int) ≤ L) = true := decide_eq_true (by omega)
            have l2 : decide ((L : Int) ≤ 122) = false := decide_eq_false (by omega)
            clear hL ho u g1 q1 hLd
            go_wp2_with (go_at_call 165; refine (HC.out _).mono ?_; rintro e w1 ⟨rfl, hw1⟩; obtain rfl := hw1.symm)
            go_ret2
            exact ⟨by rw [HR.out]; rfl, HA0.out.below⟩
          · have u' : ((s[k].toNat : Int) == 95) = false := beq_eq_false_iff_ne.2 (by omega)
            by_cases l1 : 97 ≤ L
            · have l1' : decide ((97 : Int) ≤ L) = true := decide_eq_true (by omega)
              by_cases l2 : L ≤ 122
              · have l2' : decide ((L : Int) ≤ 122) = true := decide_eq_true (by omega)
                obtain ⟨d, hd⟩ : ∃ d, L = 87 + d := ⟨L - 87, by omega⟩
                have y1 : IntKind.u8.wrap ((L : Int) - 97) = ((d - 10 : Nat) : Int) := by rw [show (L : Int) - 97 = ((d - 10 : Nat) : Int) by omega]; exact IntWalk.u8_in _ (by omega)
                have y2 : IntKind.u8.wrap (((d - 10 : Nat) : Int) + 10) = (d : Int) := by rw [show ((d - 10 : Nat) : Int) + 10 = (d : Int) by omega]; exact IntWalk.u8_in _ (by omega)
                have x5 : decide ((10 : Int) ≤ (d : Int)) = true := decide_eq_true (by omega)
                clear hL ho u g1 q1 hLd hd
                go_wp2_with (go_at_call 165; refine (HC.out _).mono ?_; rintro e w1 ⟨rfl, hw1⟩; obtain rfl := hw1.symm)
                go_ret2
                exact ⟨by rw [HR.out]; rfl, HA0.out.below⟩
              · have l2' : decide ((L : Int) ≤ 122) = false := decide_eq_false (by omega)
                clear hL ho u g1 q1 hLd
                go_wp2_with (go_at_call 165; refine (HC.out _).mono ?_; rintro e w1 ⟨rfl, hw1⟩; obtain rfl := hw1.symm)
                go_ret2
                exact ⟨by rw [HR.out]; rfl, HA0.out.below⟩
            · have l1' : decide ((97 : Int) ≤ L) = false := decide_eq_false (by omega)
              clear hL ho u g1 q1 hLd
              go_wp2_with (go_at_call 165; refine (HC.out _).mono ?_; rintro e w1 ⟨rfl, hw1⟩; obtain rfl := hw1.symm)
              go_ret2
              exact ⟨by rw [HR.out]; rfl, HA0.out.below⟩
    · have HR : Hid (Lib.parseUintM 2147483647 0 s.data.toList = .ok n) := hide (by
        rw [← HG.out, drop_nil s k (by omega)]; rfl)
      go_wp2_with fail
      go_ret2
      exact ⟨by rw [HR.out]; rfl, HA0.out.below⟩
theorem iempty31_any (w:World):Calls Tryz.prog 139 #[.string ⟨#[]⟩,.int .i64 10,.int .i64 31] w (fun e w'=>e = .returned (n31Tup .syntax) /\ Below w.heap.size w w'):=by
 go_enter Tryz.func139,Tryz.ntmps139;go_wp2_with fail;go_ret2;exact ⟨rfl,Below.refl _ _⟩
def EnvS (w:World):Prop:=(∃ ev,w.cell? ⟨3,0,none⟩ = some ev /\ (ev = .nilIface \/ ∃ te pe,ev = .iface te pe)) /\ ∃ ev,w.cell? ⟨4,0,none⟩ = some ev /\ (ev = .nilIface \/ ∃ te pe,ev = .iface te pe)
theorem EnvS.kept {w w':World} (h:EnvS w) (hb:Below w.heap.size w w'):EnvS w':=by
 obtain ⟨⟨a,h1,h2⟩,b,h3,h4⟩:=h;exact ⟨⟨a,(hb.cell (World.block_lt_of_cell? _ _ h1)).trans h1,h2⟩,b,(hb.cell (World.block_lt_of_cell? _ _ h3)).trans h3,h4⟩
def U31 (o:Option Nat) (e:Ending):Prop:=match o with
  | some n=>e = .returned (.tuple #[.int .u64 n,.nilIface])
  | none=>∃ m N,e = .returned (.tuple #[.int .u64 m,.iface 212 (.pointer (some ⟨N,0,none⟩))])
theorem parse31_any (s:ByteArray) (w:World) (hs:s.size <= 1048576) (hE:EnvS w) :
  Calls Tryz.prog 115 #[.string s,.int .i64 10,.int .i64 31] w fun e w'=>U31 (parse31 s.data.toList) e /\ Below w.heap.size w w':=by
 have key:∃ r,Calls Tryz.prog 139 #[.string s,.int .i64 10,.int .i64 31] w (fun e w'=>e = .returned (n31Tup r) /\ Below w.heap.size w w') /\ parse31 s.data.toList = (match r with | .ok n=>some n | _=>none):=by
  by_cases h0:s.size = 0
  ·have he:s = ⟨#[]⟩:=ext_list (size0 h0).1;subst he;exact ⟨_,iempty31_any w,rfl⟩
  ·refine ⟨_,iparse31_any s w hs h0,?_⟩;unfold parse31 Lib.parseUintB;rw [if_neg (sizeP h0).1]
   all_goals rfl
 obtain ⟨⟨es,hs1,hs2⟩,er,hr1,hr2⟩:=hE;have HS:=hide (show s.size <= 281474976710656 by omega);have HSY:Hid (∀ W,Below w.heap.size w W -> W.cell? ⟨3,0,none⟩ = some es):=hide fun W hb=>(hb.cell (World.block_lt_of_cell? _ _ hs1)).trans hs1
 have HRG:Hid (∀ W,Below w.heap.size w W -> W.cell? ⟨4,0,none⟩ = some er):=hide fun W hb=>(hb.cell (World.block_lt_of_cell? _ _ hr1)).trans hr1
 have HS2:=hide hs2;have HR2:=hide hr2;clear hs1 hs2 hr1 hr2 hs;obtain ⟨r,hc,hp⟩:=key;have HC:=hide hc;have HP:=hide hp;clear hc hp;cases r with
 | ok n =>
  go_enter Tryz.func115,Tryz.ntmps115;go_wp2_with (go_at_call 139;refine HC.out.mono ?_;rintro e w1 ⟨rfl,hb1⟩;rw [show n31Tup (.ok n) = .tuple #[.int .u64 n,.nilIface] from rfl];have HB1:=hide hb1;clear hb1);go_ret2;rw [HP.out];exact ⟨rfl,HB1.out⟩
 | «syntax» =>
  go_enter Tryz.func115,Tryz.ntmps115
  go_wp2_with (first
   |(go_at_call 139;refine HC.out.mono ?_;rintro e w1 ⟨rfl,hb1⟩;rw [show n31Tup .syntax = .tuple #[.int .u64 0,.iface 210 (.int .i64 2)] from rfl];have HB1:=hide hb1;clear hb1)
   |(go_at_call 140;refine (Tryz.strconv_toError_syntax _ s 10 31 es _ HS.out (HSY.out _ HB1.out) HS2.out).mono ?_;rintro e w2 ⟨N,rfl,_,_,hb2⟩;have HB2:=hide (HB1.out.trans (hb2.mono HB1.out.size));clear hb2))
  go_ret2;rw [HP.out];exact ⟨⟨_,N,rfl⟩,HB2.out⟩
 | range =>
  go_enter Tryz.func115,Tryz.ntmps115
  go_wp2_with (first
   |(go_at_call 139;refine HC.out.mono ?_;rintro e w1 ⟨rfl,hb1⟩;rw [show n31Tup .range = .tuple #[.int .u64 2147483647,.iface 210 (.int .i64 1)] from rfl];have HB1:=hide hb1;clear hb1)
   |(go_at_call 140;refine (Tryz.strconv_toError_range _ s 10 31 er _ HS.out (HRG.out _ HB1.out) HR2.out).mono ?_;rintro e w2 ⟨N,rfl,_,_,hb2⟩;have HB2:=hide (HB1.out.trans (hb2.mono HB1.out.size));clear hb2))
  go_ret2;rw [HP.out];exact ⟨⟨_,N,rfl⟩,HB2.out⟩
def FilesIn (w:World) (v:Value) (F:List FileL):Prop :=
  (v = .slice none 0 0 /\ F = []) \/ ∃ a cap,v = .slice (some a) F.length cap /\ F.length <= cap /\ cap <= maxLen /\
    ∀ j (h:j < F.length),w.cell? (a.add (j * 4)) = some (.string (str (F[j]'h).name)) /\ w.cell? (a.add (j * 4 + 1)) = some (.string (str (F[j]'h).kind)) /\
      w.cell? (a.add (j * 4 + 2)) = some (.string (str (F[j]'h).id)) /\ w.cell? (a.add (j * 4 + 3)) = some (.string (str (F[j]'h).bytes))
theorem FilesIn.kept {w w':World} {v:Value} {F:List FileL} (h:FilesIn w v F) (hb:Below w.heap.size w w'):FilesIn w' v F:=by
 rcases h with h | ⟨a,cap,h1,h2,h3,h4⟩
 ·exact .inl h
 ·refine .inr ⟨a,cap,h1,h2,h3,fun j hj=>?_⟩;obtain ⟨c0,c1,c2,c3⟩:=h4 j hj;exact ⟨(hb.cell (World.block_lt_of_cell? _ _ c0)).trans c0,(hb.cell (World.block_lt_of_cell? _ _ c1)).trans c1,(hb.cell (World.block_lt_of_cell? _ _ c2)).trans c2,(hb.cell (World.block_lt_of_cell? _ _ c3)).trans c3⟩
theorem FilesIn.form {w:World} {v:Value} {F:List FileL} (h:FilesIn w v F):∃ a cap,v = .slice a F.length cap:=by
 rcases h with ⟨rfl,rfl⟩ | ⟨a,cap,rfl,_⟩
 ·exact ⟨_,_,rfl⟩
 ·exact ⟨_,_,rfl⟩
theorem FilesIn.nil (w:World):FilesIn w (.slice none 0 0) []:=.inl ⟨rfl,rfl⟩
theorem FilesIn.at {w:World} {A:Option Addr} {n cap:Nat} {F:List FileL} (h:FilesIn w (.slice A n cap) F) (k:Nat) (f:FileL) (hk:F[k]? = some f) :
  ∃ a,A = some a /\ w.cell? (a.add (k * 4)) = some (.string (str f.name)) /\ w.cell? { block:=(a.add (k * 4)).block,off:=(a.add (k * 4)).off + 1 } = some (.string (str f.kind)) /\
   w.cell? { block:=(a.add (k * 4)).block,off:=(a.add (k * 4)).off + 2 } = some (.string (str f.id)) /\ w.cell? { block:=(a.add (k * 4)).block,off:=(a.add (k * 4)).off + 3 } = some (.string (str f.bytes)):=by
 obtain ⟨hlt,rfl⟩:=List.getElem?_eq_some_iff.1 hk;rcases h with ⟨_,rfl⟩ | ⟨a,cap',h1,_,_,h4⟩
 ·cases hlt
 ·injection h1 with h1 _ _;obtain ⟨c0,c1,c2,c3⟩:=h4 k hlt;have e1:({ block:=(a.add (k * 4)).block,off:=(a.add (k * 4)).off + 1 }:Addr) = a.add (k * 4 + 1):=by rw [<- Addr.add_add];rfl
  have e2:({ block:=(a.add (k * 4)).block,off:=(a.add (k * 4)).off + 2 }:Addr) = a.add (k * 4 + 2):=by rw [<- Addr.add_add];rfl
  have e3:({ block:=(a.add (k * 4)).block,off:=(a.add (k * 4)).off + 3 }:Addr) = a.add (k * 4 + 3):=by rw [<- Addr.add_add];rfl
  exact ⟨a,h1,c0,by rw [e1];exact c1,by rw [e2];exact c2,by rw [e3];exact c3⟩
def keptV (b:Bool) (v:ByteArray):Value:=.tuple #[.string (match b with | true=>v | false=>⟨#[]⟩),.bool b]
theorem only_any (b:Bool) (v:ByteArray) (w:World):Calls Tryz.prog 149 #[.bool b,.string v] w fun e w'=>e = .returned (keptV b v) /\ w = w':=by
 cases b
 all_goals
  go_enter Tryz.func149,Tryz.ntmps149;go_wp2_with fail;go_ret2;exact ⟨rfl,rfl⟩
def RowsS (w w':World):Prop:=∀ (g:Nat) (cs:Array Value) (fr:Nat × Nat),w.heap[g]? = some (.cells cs 9 fr) -> w'.heap[g]? = w.heap[g]?
theorem RowsS.refl (w:World):RowsS w w:=fun _ _ _ _=>rfl
theorem RowsS.trans {w w1 w2:World} (h:RowsS w w1) (k:RowsS w1 w2):RowsS w w2:=fun g cs fr hx=>(k g cs fr ((h g cs fr hx).trans hx)).trans (h g cs fr hx)
theorem SBuf.rows {B:Nat} {v:Value} {l:List ByteArray} {W0 w w':World} (h:SBuf B v l W0 w) (hr:RowsS w w') (hb:Below B W0 w') (hz:B <= w'.heap.size):SBuf B v l W0 w':=by
 refine ⟨⟨h.1.1,?_⟩,hb,hz⟩;rcases h.1.2 with ⟨rfl,h0⟩ | ⟨g,cap,cur,rfl,h1,h2,h3⟩
 ·exact .inl ⟨rfl,h0⟩
 ·exact .inr ⟨g,cap,cur,rfl,h1,(hr g _ _ h2).trans h2,h3⟩
def OthersS (w w':World):Prop:=∀ (b:Nat) (cs:Array Value) (t:TypeId) (fr:Nat × Nat),t ≠ 9 -> w.heap[b]? = some (.cells cs t fr) -> w'.heap[b]? = w.heap[b]?
theorem OthersS.alloc {w w':World} (o:Obj) (h:OthersS (w.alloc o) w'):OthersS w w':=fun b cs t fr ht hb=>by
 have hlt:=lt_of_block hb;have e:=Below.heap_alloc w o b hlt;exact (h b cs t fr ht (e.trans hb)).trans e
theorem OthersS.box {w w':World} (h:OthersS w w') {b:Nat} {t:TypeId} {v:Value} (hb:Box w b t v) (ht:t ≠ 9):Box w' b t v:=(h b _ t _ ht hb).trans hb
theorem sbuf_ne {B b:Nat} {v:Value} {l:List ByteArray} {W0 w:World} {cs:Array Value} {t:TypeId} {fr:Nat × Nat} (h:SBuf B v l W0 w) (hb:w.heap[b]? = some (.cells cs t fr)) (ht:t ≠ 9):v.ownBlock ≠ some b:=by
 rcases h.1.2 with ⟨rfl,_⟩ | ⟨g,cap,cur,rfl,_,hh,_⟩
 ·simp [Value.ownBlock]
 ·intro he;have e:g = b:=by simpa [Value.ownBlock] using he
  subst e;rw [hh] at hb;injection hb with hb;injection hb with _ e;exact ht e.symm
theorem others_own {B:Nat} {v:Value} {l:List ByteArray} {W0 w w':World} (h:SBuf B v l W0 w) (hg:w.grownBy w' v.ownBlock):OthersS w w' :=
 fun b cs t fr ht hx=>hg.block b (lt_of_block hx) (fun e=>sbuf_ne h hx ht e.symm)
theorem wpList_strs_o {ops:Array Oper} {rest:List Oper} {o:Oper} {a:Act} {Q:Exit -> Act -> World -> Prop} (hgd:o.guard = none) (s x:Operand)
  (ho:o.op = .call { callee:=.builtin .append,args:=#[s,x],argTypes:=#[33,33] })
  (B:Nat) (v:Value) (l:List ByteArray) (hs:a.eval s = v) (W0 w0:World) (c:ByteArray) (hb:SBuf B v l W0 w0)
  (hx:a.eval x = .slice (some ⟨w0.heap.size,0,none⟩) 1 1) (hlen:l.length + 1 <= 8796093022208)
  (h:∀ v' w',SBuf B v' (l ++ [c]) W0 w' -> OthersS w0 w' -> w0.heap.size <= w'.heap.size -> wpList Tryz.prog ops Q rest (a.put o.dst v') w'):wpList Tryz.prog ops Q (o :: rest) a (w0.alloc (.cells #[.string c] 9)):=by
 obtain ⟨i0,hi,hz0,hz1,hz2⟩:=info_parts info_str;have hb':=hb.alloc (.cells #[.string c] 9);refine wpList_append_own _ hgd s x 33 ho B 9 i0 (.string ByteArray.empty) 1 16 Tryz.underlying33 hi hz0 hz1 hz2 rfl (by decide) v l.length (strVals l) hs hb'.1 ⟨w0.heap.size,0,none⟩ 1 1 [.string c] hx rfl ?_ ?_ (by unfold maxLen;omega) (by omega) hb'.2.2 ?_
 ·intro j u hj
  match j,hj with
  | 0,hj=>simp at hj;subst hj;simp [Addr.add]
  | (j + 1),hj=>simp at hj
 ·intro u hu;simp at hu;subst hu;rfl
 ·intro v' w' ho' hg _;refine h v' w' (hb'.grown (l':=l ++ [c]) (by simpa [strVals] using ho') hg) ((others_own hb' hg).alloc _) ?_;have:=hg.size;rw [World.size_alloc] at this;omega
def OAt (B b:Nat) (st:List UInt8) (W0 w:World):Prop:=∃ v,Box w b 270 v /\ Buf B v st W0 w /\ B <= b
theorem OAt.below {B b:Nat} {st:List UInt8} {W0 w:World} (h:OAt B b st W0 w):Below B W0 w:=by obtain ⟨v,_,h2,_⟩:=h;exact h2.2.1
theorem OAt.size {B b:Nat} {st:List UInt8} {W0 w:World} (h:OAt B b st W0 w):B <= w.heap.size:=by obtain ⟨v,_,h2,_⟩:=h;exact h2.2.2
theorem OAt.others {B b:Nat} {st:List UInt8} {W0 w w':World} (h:OAt B b st W0 w) (hk:OthersS w w') (hb:Below B W0 w') (hz:B <= w'.heap.size):OAt B b st W0 w':=by
 obtain ⟨v,h1,h2,h3⟩:=h;refine ⟨v,hk.box h1 (by decide),⟨⟨h2.1.1,?_⟩,hb,hz⟩,h3⟩;rcases h2.1.2 with ⟨rfl,h0⟩ | ⟨g,cap,cur,rfl,k1,k2,k3⟩
 ·exact .inl ⟨rfl,h0⟩
 ·exact .inr ⟨g,cap,cur,rfl,k1,(hk g _ _ _ (by decide) k2).trans k2,k3⟩
theorem OAt.drewN {B b:Nat} {st:List UInt8} {W0 w:World} (h:OAt B b st W0 w) (n:Nat):OAt B b st W0 (w.drewN n):=by
 obtain ⟨v,h1,h2,h3⟩:=h;exact ⟨v,h1.drewN n,h2.drewN n,h3⟩
theorem rowsS_drewN (w:World) (n:Nat):RowsS w (w.drewN n):=fun _ _ _ _=>rfl
theorem rowsS_set {w w1:World} (h:RowsS w w1) {b:Nat} {t:TypeId} {v:Value} (hb:Box w1 b t v) (ht:t ≠ 9) (x:Value):RowsS w (w1.setCell ⟨b,0,none⟩ x):=fun g cs fr hx=>by
 have e1:=h g cs fr hx
 have hne:g ≠ b:=by
  rintro rfl;have e2:=e1.trans hx;unfold Box at hb;rw [hb] at e2;injection e2 with e2;injection e2 with _ e2;exact ht e2
 exact (Below.heap_setCell w1 ⟨b,0,none⟩ x g hne).trans e1
theorem rowsS_alloc (w:World) (o:Obj):RowsS w (w.alloc o):=fun g cs fr hx=>Below.heap_alloc w o g (lt_of_block hx)
theorem rowsS_own {B:Nat} {v:Value} {l:List UInt8} {W0 w w':World} (h:Buf B v l W0 w) (hg:w.grownBy w' v.ownBlock):RowsS w w':=fun g cs fr hx =>
 hg.block g (lt_of_block hx) (fun e=>by
  rcases h.1.2 with ⟨rfl,_⟩ | ⟨g',cap,cur,rfl,_,hh,_⟩
  ·simp [Value.ownBlock] at e
  ·have e':g = g':=by simpa [Value.ownBlock] using e
   subst e';rw [hh] at hx;injection hx with hx;injection hx with _ e2;exact absurd e2 (by decide))
theorem wpList_op_byte {ops:Array Oper} {rest:List Oper} {o:Oper} {a:Act} {Q:Exit -> Act -> World -> Prop} (hgd:o.guard = none) (s x:Operand)
  (ho:o.op = .call { callee:=.builtin .append,args:=#[s,x],argTypes:=#[270,270] })
  (B:Nat) (v:Value) (l:List UInt8) (hs:a.eval s = v) (W0 w0:World) (c:UInt8) (hb:Buf B v l W0 w0)
  (hx:a.eval x = .slice (some ⟨w0.heap.size,0,none⟩) 1 1) (hlen:l.length + 1 <= 140737488355328)
  (h:∀ v' w',Buf B v' (l ++ [c]) W0 w' -> Kept w0 w' -> RowsS w0 w' -> w0.heap.size <= w'.heap.size -> wpList Tryz.prog ops Q rest (a.put o.dst v') w'):wpList Tryz.prog ops Q (o :: rest) a (w0.alloc (.cells #[.int .u8 c.toNat] 5)):=by
 obtain ⟨i0,hi,hz0,hz1,hz2⟩:=info_parts info_u8;have hb':=hb.alloc (.cells #[.int .u8 c.toNat] 5);refine wpList_append_own _ hgd s x 270 ho B 5 i0 (.int .u8 0) 1 1 Tryz.underlying270 hi hz0 hz1 hz2 rfl (by decide) v l.length (cellsOf l) hs hb'.1 ⟨w0.heap.size,0,none⟩ 1 1 [.int .u8 c.toNat] hx rfl ?_ ?_ (by unfold maxLen;omega) (by omega) hb'.2.2 ?_
 ·intro j u hj
  match j,hj with
  | 0,hj=>simp at hj;subst hj;simp [Addr.add]
  | (j + 1),hj=>simp at hj
 ·intro u hu;simp at hu;subst hu;rfl
 ·intro v' w' ho' hg _;refine h v' w' (hb'.grown (l':=l ++ [c]) (by simpa [cellsOf] using ho') hg) ((kept_own hb' hg).alloc _) ((rowsS_alloc _ _).trans (rowsS_own hb' hg)) ?_;have:=hg.size;rw [World.size_alloc] at this;omega
theorem oOpen_any (B b:Nat) (st:List UInt8) (c:UInt8) (W0 w:World) (h:OAt B b st W0 w) (hl:st.length <= 1048576) :
  Calls Tryz.prog 232 #[.pointer (some ⟨b,0,none⟩),.int .u8 c.toNat] w fun e w'=>e = .returned (.tuple #[]) /\ OAt B b (st ++ [c]) W0 w' /\ RowsS w w':=by
 obtain ⟨v,hbx,hbuf,hB⟩:=h;have hc:=hbx.cell;have HBX:=hide hbx;have HBUF:=hide hbuf;clear hbuf hbx;go_enter Tryz.func232,Tryz.ntmps232;go_wp2_with (refine wpList_op_byte rfl _ _ rfl B v st rfl W0 w c HBUF.out rfl (by omega) ?_;intro v1 w1 hb1 hk1 hr1 hz1;obtain ⟨A1,cc1,hv1⟩:=hb1.slice_len;rw [List.length_append,List.length_singleton] at hv1;subst hv1;have HB1:=hide hb1;have HX1:=hide (hk1 b _ _ (by decide) HBX.out);have HR1:=hide hr1;have hc1:=HX1.out.cell;have hf1:=HX1.out.free;clear hb1 hk1 hr1);go_end0;exact ⟨rfl,⟨_,HX1.out.set _,HB1.out.setBox HX1.out (by decide) hB _,hB⟩,rowsS_set HR1.out HX1.out (by decide) _⟩
def lastO (st:List UInt8):UInt8:=st.getLast?.getD 0
theorem lastO_snoc (st:List UInt8) (c:UInt8):lastO (st ++ [c]) = c:=by simp [lastO]
theorem oInner_any (B b:Nat) (st:List UInt8) (W0 w:World) (h:OAt B b st W0 w) :
  Calls Tryz.prog 230 #[.pointer (some ⟨b,0,none⟩)] w fun e w'=>e = .returned (.int .u8 (lastO st).toNat) /\ ∃ n,w' = w.drewN n:=by
 obtain ⟨v,hbx,hbuf,hB⟩:=h;have hc:=hbx.cell;rcases List.eq_nil_or_concat st with rfl | ⟨r,c,rfl⟩
 ·obtain ⟨A,cc,rfl⟩:=hbuf.slice_len;clear hbuf hbx;go_enter Tryz.func230,Tryz.ntmps230;go_wp2_with fail;go_ret;exact ⟨rfl,0,rfl⟩
 ·rw [List.concat_eq_append] at hbuf ⊢;have HL:Hid (lastO (r ++ [c]) = c):=hide (lastO_snoc r c);obtain ⟨g,cap,rfl,hc1,hc2,hc3,hc4⟩:=hbuf.form (by simp);have hcell:=hbuf.cellAt r.length (by simp);rw [List.getElem_concat_length rfl] at hcell;unfold maxLen at hc2;obtain ⟨n,hn⟩:∃ n,n = r.length:=⟨_,rfl⟩
  have hlen:(r ++ [c]).length = n + 1:=by rw [hn];simp
  rw [<- hn] at hcell;rw [hlen] at hc hc1;have q1:IntKind.i64.wrap (((n + 1:Nat):Int) - 1) = n:=by rw [IntWalk.i64_in _ (by omega)];omega
  have q2:IntKind.i64.wrap ((n:Int) + 1 - 1) = n:=by rw [IntWalk.i64_in _ (by omega)];omega
  have q3:(n:Int) < (n:Int) + 1:=by omega
  have t0:(((n:Int) + 1) == 0) = false:=beq_eq_false_iff_ne.2 (by omega);clear hbuf hbx hn hlen;go_enter Tryz.func230,Tryz.ntmps230;go_wp2_with fail;go_quiet (fail)
  all_goals
   try go_wp2_with fail
   go_ret;exact ⟨by rw [HL.out];rfl,_,rfl⟩
theorem oClose_any (B b:Nat) (st:List UInt8) (W0 w:World) (h:OAt B b st W0 w) :
  Calls Tryz.prog 231 #[.pointer (some ⟨b,0,none⟩)] w fun e w'=>e = .returned (.tuple #[]) /\ OAt B b st.dropLast W0 w' /\ RowsS w w':=by
 obtain ⟨v,hbx,hbuf,hB⟩:=h;have hc:=hbx.cell;have hf:=hbx.free;have HBX:=hide hbx;have HBUF:=hide hbuf;rcases List.eq_nil_or_concat st with rfl | ⟨r,c,rfl⟩
 ·obtain ⟨A,cc,rfl⟩:=hbuf.slice_len;clear hbuf hbx;have hdl:([]:List UInt8).dropLast = []:=rfl;rw [hdl];clear hdl;go_enter Tryz.func231,Tryz.ntmps231;go_wp2_with fail;go_region
  all_goals
   try go_wp2_with fail
   go_end0;exact ⟨rfl,⟨_,(HBX.out.drewN _).set _,(HBUF.out.drewN _).setBox (HBX.out.drewN _) (by decide) hB _,hB⟩,rowsS_set (rowsS_drewN w _) (HBX.out.drewN _) (by decide) _⟩
 ·rw [List.concat_eq_append] at hbuf HBUF ⊢;have HD:Hid ((r ++ [c]).dropLast = r):=hide (List.dropLast_concat);obtain ⟨g,cap,rfl,hc1,hc2,hc3,hc4⟩:=hbuf.form (by simp);have htk:=hbuf.take r.length (by simp);rw [List.take_left] at htk;have HTK:=hide htk;unfold maxLen at hc2;obtain ⟨n,hn⟩:∃ n,n = r.length:=⟨_,rfl⟩
  have hlen:(r ++ [c]).length = n + 1:=by rw [hn];simp
  rw [<- hn] at HTK;rw [hlen] at hc hc1 HBX;have q1:IntKind.i64.wrap (((n + 1:Nat):Int) - 1) = n:=by rw [IntWalk.i64_in _ (by omega)];omega
  have q2:IntKind.i64.wrap ((n:Int) + 1 - 1) = n:=by rw [IntWalk.i64_in _ (by omega)];omega
  have q3:(n:Int) <= (cap:Int):=by omega
  have q4:¬ (n:Int) < 0:=by omega
  have hne:¬ cap = n:=by omega
  clear hbuf hbx hn hlen htk HBUF;rw [HD.out];go_enter Tryz.func231,Tryz.ntmps231;go_wp2_with fail;go_region
  all_goals
   try go_wp2_with fail
   go_end0;exact ⟨rfl,⟨_,(HBX.out.drewN _).set _,(HTK.out.drewN _).setBox (HBX.out.drewN _) (by decide) hB _,hB⟩,rowsS_set (rowsS_drewN w _) (HBX.out.drewN _) (by decide) _⟩
def roL (st:List UInt8) (c:UInt8):List UInt8 × Bool :=
  if c = 34 \/ c = 39 \/ c = 40 then (st ++ [c],false) else if c = 41 then (st.dropLast,false) else if c = 59 then (st,st.isEmpty) else (st,false)
theorem oOutside_any (B b:Nat) (st:List UInt8) (c:UInt8) (W0 w:World) (h:OAt B b st W0 w) (hl:st.length <= 1048576) :
  Calls Tryz.prog 233 #[.pointer (some ⟨b,0,none⟩),.int .u8 c.toNat] w fun e w'=>e = .returned (.bool (roL st c).2) /\ OAt B b (roL st c).1 W0 w' /\ RowsS w w':=by
 have HO:=hide h
 by_cases h1:c = 34 \/ c = 39 \/ c = 40
 ·have HR:Hid (roL st c = (st ++ [c],false)):=hide (if_pos h1);rw [HR.out]
  have hc:c = 34 \/ (c ≠ 34 /\ c = 39) \/ (c ≠ 34 /\ c ≠ 39 /\ c = 40):=by
   by_cases a:c = 34
   ·exact .inl a
   ·by_cases b:c = 39
    ·exact .inr (.inl ⟨a,b⟩)
    ·exact .inr (.inr ⟨a,b,(h1.resolve_left a).resolve_left b⟩)
  clear h h1;rcases hc with k1 | ⟨k0,k1⟩ | ⟨k0,k00,k1⟩
  ·have s1:((c.toNat:Int) == 34) = true:=tT 34 k1 (by omega);clear k1;go_enter Tryz.func233,Tryz.ntmps233;go_wp2_with fail;refine (oOpen_any B b st c W0 _ HO.out hl).mono ?_;rintro e w1 ⟨rfl,ho,hr⟩;have HO1:=hide ho;have HR1:=hide hr;clear ho hr;go_wp2_with fail;go_ret;exact ⟨rfl,HO1.out,HR1.out⟩
  ·have s1:((c.toNat:Int) == 34) = false:=tF 34 k0 (by omega);have s2:((c.toNat:Int) == 39) = true:=tT 39 k1 (by omega);clear k0 k1;go_enter Tryz.func233,Tryz.ntmps233;go_wp2_with fail;refine (oOpen_any B b st c W0 _ HO.out hl).mono ?_;rintro e w1 ⟨rfl,ho,hr⟩;have HO1:=hide ho;have HR1:=hide hr;clear ho hr;go_wp2_with fail;go_ret;exact ⟨rfl,HO1.out,HR1.out⟩
  ·have s1:((c.toNat:Int) == 34) = false:=tF 34 k0 (by omega);have s2:((c.toNat:Int) == 39) = false:=tF 39 k00 (by omega);have s3:((c.toNat:Int) == 40) = true:=tT 40 k1 (by omega);clear k0 k00 k1;go_enter Tryz.func233,Tryz.ntmps233;go_wp2_with fail;refine (oOpen_any B b st c W0 _ HO.out hl).mono ?_;rintro e w1 ⟨rfl,ho,hr⟩;have HO1:=hide ho;have HR1:=hide hr;clear ho hr;go_wp2_with fail;go_ret;exact ⟨rfl,HO1.out,HR1.out⟩
 have s1:((c.toNat:Int) == 34) = false:=tF 34 (fun e=>h1 (.inl e)) (by omega);have s2:((c.toNat:Int) == 39) = false:=tF 39 (fun e=>h1 (.inr (.inl e))) (by omega);have s3:((c.toNat:Int) == 40) = false:=tF 40 (fun e=>h1 (.inr (.inr e))) (by omega)
 by_cases h2:c = 41
 ·have HR:Hid (roL st c = (st.dropLast,false)):=hide (by unfold roL;rw [if_neg h1,if_pos h2]);have s4:((c.toNat:Int) == 41) = true:=tT 41 h2 (by omega);rw [HR.out];clear h h1 h2;go_enter Tryz.func233,Tryz.ntmps233;go_wp2_with fail;refine (oClose_any B b st W0 _ HO.out).mono ?_;rintro e w1 ⟨rfl,ho,hr⟩;have HO1:=hide ho;have HR1:=hide hr;clear ho hr;go_wp2_with fail;go_ret;exact ⟨rfl,HO1.out,HR1.out⟩
 have s4:((c.toNat:Int) == 41) = false:=tF 41 h2 (by omega)
 by_cases h3:c = 59
 ·have HR:Hid (roL st c = (st,st.isEmpty)):=hide (by unfold roL;rw [if_neg h1,if_neg h2,if_pos h3]);have s5:((c.toNat:Int) == 59) = true:=tT 59 h3 (by omega);rw [HR.out];obtain ⟨v,hbx,hbuf,hB⟩:=h;obtain ⟨A,cc,rfl⟩:=hbuf.slice_len;have hcl:=hbx.cell;obtain ⟨n,hn⟩:∃ n,n = st.length:=⟨_,rfl⟩
  have HE:Hid (st.isEmpty = ((n:Int) == 0)):=hide (by
   rw [hn];cases st with
   | nil=>rfl
   | cons a r =>
    have:(((a :: r).length:Int) == 0) = false:=beq_eq_false_iff_ne.2 (by simp;omega);rw [this];rfl)
  rw [<- hn] at hcl;clear h1 h2 h3 hbx hbuf hn;rw [HE.out];go_enter Tryz.func233,Tryz.ntmps233;go_wp2_with fail;go_ret;exact ⟨rfl,HO.out,RowsS.refl _⟩
 ·have HR:Hid (roL st c = (st,false)):=hide (by unfold roL;rw [if_neg h1,if_neg h2,if_neg h3]);have s5:((c.toNat:Int) == 59) = false:=tF 59 h3 (by omega);rw [HR.out];clear h h1 h2 h3;go_enter Tryz.func233,Tryz.ntmps233;go_wp2_with fail;go_ret;exact ⟨rfl,HO.out,RowsS.refl _⟩
def readO (st:List UInt8) (c:UInt8):List UInt8 × Bool :=
  if lastO st = 92 then (st.dropLast,false)
  else if lastO st = 34 \/ lastO st = 39 then (if c = lastO st then (st.dropLast,false) else if c = 92 then (st ++ [c],false) else (st,false))
  else roL st c
theorem oRead_any (B b:Nat) (st:List UInt8) (c:UInt8) (W0 w:World) (h:OAt B b st W0 w) (hl:st.length <= 1048576) :
  Calls Tryz.prog 220 #[.pointer (some ⟨b,0,none⟩),.int .u8 c.toNat] w fun e w'=>e = .returned (.bool (readO st c).2) /\ OAt B b (readO st c).1 W0 w' /\ RowsS w w':=by
 have HO:=hide h;obtain ⟨d,hd⟩:∃ d,lastO st = d:=⟨_,rfl⟩
 have HD:=hide hd;have hdef:readO st c = (if d = 92 then (st.dropLast,false) else if d = 34 \/ d = 39 then (if c = d then (st.dropLast,false) else if c = 92 then (st ++ [c],false) else (st,false)) else roL st c):=by unfold readO;rw [hd]
 clear hd h
 by_cases h1:d = 92
 ·have HR:Hid (readO st c = (st.dropLast,false)):=hide (by rw [hdef,if_pos h1]);have s1:((d.toNat:Int) == 92) = true:=tT 92 h1 (by omega);rw [HR.out];clear hdef h1;go_enter Tryz.func220,Tryz.ntmps220;go_wp2_with fail;refine (oInner_any B b st W0 _ HO.out).mono ?_;rintro e w1 ⟨rfl,n,rfl⟩;rw [HD.out];go_wp2_with fail;refine (oClose_any B b st W0 _ (HO.out.drewN n)).mono ?_;rintro e w2 ⟨rfl,ho,hr⟩;have HO1:=hide ho;have HR1:=hide ((rowsS_drewN w n).trans hr);clear ho hr;go_wp2_with fail;go_ret;exact ⟨rfl,HO1.out,HR1.out⟩
 have s1:((d.toNat:Int) == 92) = false:=tF 92 h1 (by omega)
 by_cases h2:d = 34 \/ d = 39
 ·have hq:(((d.toNat:Int) == 34) = true) \/ (((d.toNat:Int) == 34) = false /\ ((d.toNat:Int) == 39) = true):=by
   rcases h2 with h | h
   ·exact .inl (tT 34 h (by omega))
   ·exact .inr ⟨tF 34 (by rw [h];decide) (by omega),tT 39 h (by omega)⟩
  have hcd:((c.toNat:Int) == (d.toNat:Int)) = decide (c = d):=by
   by_cases e:c = d
   ·rw [e,decide_eq_true rfl];simp
   ·rw [decide_eq_false e,beq_eq_false_iff_ne];intro e2;exact e (UInt8.toNat_inj.1 (by omega))
  by_cases h3:c = d
  ·have HR:Hid (readO st c = (st.dropLast,false)):=hide (by rw [hdef,if_neg h1,if_pos h2,if_pos h3]);rw [decide_eq_true h3] at hcd;rw [HR.out];clear hdef h1 h2 h3;rcases hq with s2 | ⟨s2,s3⟩
   all_goals
    go_enter Tryz.func220,Tryz.ntmps220;go_wp2_with fail;refine (oInner_any B b st W0 _ HO.out).mono ?_;rintro e w1 ⟨rfl,n,rfl⟩;rw [HD.out];go_wp2_with fail;refine (oClose_any B b st W0 _ (HO.out.drewN n)).mono ?_;rintro e w2 ⟨rfl,ho,hr⟩;have HO1:=hide ho;have HR1:=hide ((rowsS_drewN w n).trans hr);clear ho hr;go_wp2_with fail;go_ret;exact ⟨rfl,HO1.out,HR1.out⟩
  ·rw [decide_eq_false h3] at hcd
   by_cases h4:c = 92
   ·have HR:Hid (readO st c = (st ++ [c],false)):=hide (by rw [hdef,if_neg h1,if_pos h2,if_neg h3,if_pos h4]);have s9:((c.toNat:Int) == 92) = true:=tT 92 h4 (by omega);rw [HR.out];clear hdef h1 h2 h3 h4;rcases hq with s2 | ⟨s2,s3⟩
    all_goals
     go_enter Tryz.func220,Tryz.ntmps220;go_wp2_with fail;refine (oInner_any B b st W0 _ HO.out).mono ?_;rintro e w1 ⟨rfl,n,rfl⟩;rw [HD.out];go_wp2_with fail;refine (oOpen_any B b st c W0 _ (HO.out.drewN n) hl).mono ?_;rintro e w2 ⟨rfl,ho,hr⟩;have HO1:=hide ho;have HR1:=hide ((rowsS_drewN w n).trans hr);clear ho hr;go_wp2_with fail;go_ret;exact ⟨rfl,HO1.out,HR1.out⟩
   ·have HR:Hid (readO st c = (st,false)):=hide (by rw [hdef,if_neg h1,if_pos h2,if_neg h3,if_neg h4]);have s9:((c.toNat:Int) == 92) = false:=tF 92 h4 (by omega);rw [HR.out];clear hdef h1 h2 h3 h4;rcases hq with s2 | ⟨s2,s3⟩
    all_goals
     go_enter Tryz.func220,Tryz.ntmps220;go_wp2_with fail;refine (oInner_any B b st W0 _ HO.out).mono ?_;rintro e w1 ⟨rfl,n,rfl⟩;rw [HD.out];go_wp2_with fail;go_ret;exact ⟨rfl,HO.out.drewN n,rowsS_drewN w n⟩
 ·have HR:Hid (readO st c = roL st c):=hide (by rw [hdef,if_neg h1,if_neg h2]);have s2:((d.toNat:Int) == 34) = false:=tF 34 (fun e=>h2 (.inl e)) (by omega);have s3:((d.toNat:Int) == 39) = false:=tF 39 (fun e=>h2 (.inr e)) (by omega);rw [HR.out];clear hdef h1 h2;go_enter Tryz.func220,Tryz.ntmps220;go_wp2_with fail;refine (oInner_any B b st W0 _ HO.out).mono ?_;rintro e w1 ⟨rfl,n,rfl⟩;rw [HD.out];go_wp2_with fail;refine (oOutside_any B b st c W0 _ (HO.out.drewN n) hl).mono ?_;rintro e w2 ⟨rfl,ho,hr⟩;have HO1:=hide ho;have HR1:=hide ((rowsS_drewN w n).trans hr);clear ho hr;go_wp2_with fail;go_ret;exact ⟨rfl,HO1.out,HR1.out⟩
def stk (s:CSt):List UInt8:=List.replicate s.1 40 ++ ((if s.2.1 = 0 then [] else [s.2.1]) ++ (if s.2.2 = true then [92] else []))
def okS (s:CSt):Prop:=(s.2.1 = 0 \/ s.2.1 = 34 \/ s.2.1 = 39) /\ (s.2.2 = true -> s.2.1 ≠ 0)
theorem okS_0:okS st0:=⟨.inl rfl,fun h=>by cases h⟩
theorem lastO_rep (d:Nat):lastO (List.replicate d 40) = if d = 0 then 0 else 40:=by
 cases d with
 | zero=>rfl
 | succ n=>rw [List.replicate_succ',lastO_snoc];rfl
theorem drop_rep (d:Nat):(List.replicate d (40:UInt8)).dropLast = List.replicate (d - 1) 40:=by
 cases d with
 | zero=>rfl
 | succ n=>rw [List.replicate_succ',List.dropLast_concat];rfl
theorem rep_empty (d:Nat):(List.replicate d (40:UInt8)).isEmpty = decide (d = 0):=by cases d <;> rfl
theorem read_stk (s:CSt) (c:UInt8) (h:okS s):readO (stk s) c = (stk (cstep s c).1,(cstep s c).2) /\ okS (cstep s c).1:=by
 obtain ⟨d,q,x⟩:=s;obtain ⟨h1,h2⟩:=h;simp only at h1 h2;cases x with
 | true =>
  have hq:=h2 rfl;have e:stk (d,q,true) = (List.replicate d 40 ++ [q]) ++ [92]:=by simp [stk,hq]
  have e2:cstep (d,q,true) c = ((d,q,false),false):=rfl;rw [e,e2];refine ⟨?_,h1,fun h=>by cases h⟩;unfold readO;rw [lastO_snoc,if_pos rfl,List.dropLast_concat];simp [stk,hq]
 | false =>
  by_cases hq:q = 0
  ·subst hq;have e:stk (d,0,false) = List.replicate d 40:=by simp [stk]
   rw [e];have hl:=lastO_rep d
   have hro:readO (List.replicate d 40) c = roL (List.replicate d 40) c:=by
    unfold readO;rw [hl];split
    ·rfl
    ·rfl
   rw [hro];unfold roL cstep;simp only [Bool.false_eq_true,if_false,ne_eq,not_true_eq_false]
   by_cases c1:c = 34 \/ c = 39
   ·rw [if_pos c1,if_pos (c1.elim (fun a=>.inl a) (fun a=>.inr (.inl a)))];refine ⟨?_,.inr c1,fun h=>by cases h⟩;have:c ≠ 0:=by rcases c1 with a | a <;> rw [a] <;> decide
    simp [stk,this]
   ·rw [if_neg c1]
    by_cases c2:c = 40
    ·rw [if_pos c2,if_pos (.inr (.inr c2))];refine ⟨?_,.inl rfl,fun h=>by cases h⟩;subst c2;simp only [stk,if_true,List.append_nil,Bool.false_eq_true,if_false];rw [List.replicate_succ']
    ·rw [if_neg c2,if_neg (fun h=>h.elim (fun a=>c1 (.inl a)) (fun h=>h.elim (fun a=>c1 (.inr a)) c2))]
     by_cases c3:c = 41
     ·rw [if_pos c3,if_pos c3];refine ⟨?_,.inl rfl,fun h=>by cases h⟩;rw [drop_rep];simp [stk]
     ·rw [if_neg c3,if_neg c3];refine ⟨?_,.inl rfl,fun h=>by cases h⟩
      by_cases c4:c = 59
      ·rw [if_pos c4,rep_empty];simp [stk,c4]
      ·rw [if_neg c4];simp [stk,c4]
  ·have e:stk (d,q,false) = List.replicate d 40 ++ [q]:=by simp [stk,hq]
   have hq2:q = 34 \/ q = 39:=h1.resolve_left hq;rw [e];unfold readO;rw [lastO_snoc,if_neg (by rcases hq2 with a | a <;> rw [a] <;> decide),if_pos hq2];unfold cstep;simp only [Bool.false_eq_true,if_false,ne_eq,hq,not_false_eq_true,if_true]
   by_cases c1:c = q
   ·rw [if_pos c1,if_pos c1,List.dropLast_concat];exact ⟨by simp [stk],.inl rfl,fun h=>by cases h⟩
   ·rw [if_neg c1,if_neg c1]
    by_cases c2:c = 92
    ·rw [if_pos c2,if_pos c2];refine ⟨?_,.inr hq2,fun _=>hq⟩;subst c2;simp [stk,hq]
    ·rw [if_neg c2,if_neg c2];exact ⟨by simp [stk,hq],.inr hq2,fun h=>by cases h⟩
theorem readO_len (st:List UInt8) (c:UInt8):(readO st c).1.length <= st.length + 1:=by
 have hd:st.dropLast.length <= st.length + 1:=by rw [List.length_dropLast];omega
 unfold readO roL
 repeat' split
 all_goals first | exact hd | (simp;done) | (simp;omega) | omega
def pcsAt (s:ByteArray) (ff k:Nat):List UInt8:=(s.data.toList.take k).drop ff
theorem pcsAt_same (s:ByteArray) (k:Nat):pcsAt s k k = []:=List.drop_eq_nil_of_le (List.length_take_le _ _)
theorem pcsAt_snoc (s:ByteArray) (ff k:Nat) (h:ff <= k) (hk:k < s.size):pcsAt s ff (k + 1) = pcsAt s ff k ++ [s[k]]:=by
 unfold pcsAt;rw [take_snoc s k hk,List.drop_append_of_le_length (by rw [List.length_take,toList_length];omega)]
theorem pcsAt_str (s:ByteArray) (ff k:Nat):s.extract ff k = str (pcsAt s ff k):=ext_list (by rw [extract_list,str_toList];rfl)
theorem pieces_any (s:ByteArray) (w:World) (hs:s.size <= 1048575) :
  Calls Tryz.prog 202 #[.string s] w fun e w'=>∃ v,e = .returned v /\ SBuf w.heap.size v ((pcs st0 [] s.data.toList).map str) w w':=by
 have HS0:Hid (SBuf w.heap.size (.slice none 0 0) [] w (w.alloc (.cells #[.slice none 0 0] 270))):=hide (SBuf.nil ((Below.refl _ w).alloc (Nat.le_refl _) _) (by rw [World.size_alloc];omega));have HO0:Hid (OAt w.heap.size w.heap.size (stk st0) w (w.alloc (.cells #[.slice none 0 0] 270))):=hide ⟨_,Box.new w _ _,Buf.nil ((Below.refl _ w).alloc (Nat.le_refl _) _) (by rw [World.size_alloc];omega),Nat.le_refl _⟩;go_enter Tryz.func202,Tryz.ntmps202;go_wp2_with fail
 go_loopw [3,5,9] (fun v f i wr=>∃ (k ff:Nat) (acc:List (List UInt8)) (st:CSt),k <= s.size /\ ff <= k /\ i = .int .i64 k /\ f = .int .i64 ff /\ acc.length <= k /\
   Hid (SBuf w.heap.size v (acc.map str) w wr) /\ Hid (OAt w.heap.size w.heap.size (stk st) w wr) /\ Hid (okS st) /\ Hid ((stk st).length <= k) /\ Hid (acc ++ pcs st (pcsAt s ff k) (s.data.toList.drop k) = pcs st0 [] s.data.toList)) (fun _ _ i _=>s.size - (intOf i).toNat)
 case atStart=>exact ⟨0,0,[],st0,Nat.zero_le _,Nat.le_refl _,rfl,rfl,Nat.le_refl _,HS0,HO0,hide okS_0,hide (Nat.zero_le _),hide (by rw [pcsAt_same];rfl)⟩
 case round =>
  obtain ⟨k,ff,acc,st,hk,hff,rfl,rfl,hacc,HS,HO,HK,HL,HP⟩:=hrel
  by_cases hlt:k < s.size
  ·have hdc:=drop_cons s k hlt;obtain ⟨hrd,hok⟩:=read_stk st s[k] HK.out;have hln:=readO_len (stk st) s[k];rw [hrd] at hln;obtain ⟨st',hst'⟩:∃ x,(cstep st s[k]).1 = x:=⟨_,rfl⟩
   have hP:=HP.out;rw [hdc] at hP;have HRD:Hid (readO (stk st) s[k] = (stk st',(cstep st s[k]).2)):=hide (by rw [hrd,hst']);have HOK:Hid (okS st'):=hide (by rw [<- hst'];exact hok);have HLN:Hid ((stk st').length <= k + 1):=hide (by have:=HL.out;rw [<- hst'];simp only at hln;omega);have HSL:Hid ((stk st).length <= 1048576):=hide (by have:=HL.out;omega);cases he:(cstep st s[k]).2 with
   | true =>
    rw [pcs_end he,hst'] at hP;obtain ⟨X,hX⟩:∃ X,s.extract ff k = X:=⟨_,rfl⟩
    have HX:Hid (X = str (pcsAt s ff k)):=hide (by rw [<- hX,pcsAt_str]);have HP2:Hid ((acc ++ [pcsAt s ff k]) ++ pcs st' (pcsAt s (k + 1) (k + 1)) (s.data.toList.drop (k + 1)) = pcs st0 [] s.data.toList):=hide (by rw [<- hP,pcsAt_same];simp);rw [he] at HRD;clear hdc hrd hok hln hst' hP he;go_wp2_with fail;refine (oRead_any w.heap.size w.heap.size (stk st) s[k] w _ HO.out HSL.out).mono ?_;rintro e w1 ⟨rfl,ho1,hr1⟩;rw [HRD.out] at ho1;rw [HRD.out];have HO1:=hide ho1;have HS1:=hide (HS.out.rows hr1 ho1.below ho1.size);clear ho1 hr1;go_wp2_with (refine wpList_strs_o rfl _ _ rfl w.heap.size u3 (acc.map str) rfl w w1 X HS1.out rfl (by rw [List.length_map];omega) ?_;intro v2 w2 hb2 ho2 hz2;have HS2:=hide hb2;have HO2:=hide (HO1.out.others ho2 hb2.below hb2.2.2);clear hb2 ho2 hz2);go_roundw
    case rel=>exact ⟨k + 1,k + 1,acc ++ [pcsAt s ff k],st',by omega,Nat.le_refl _,by go_num,by go_num,by simp;omega,by rw [HX.out] at HS2;simpa using HS2,HO2,HOK,HLN,HP2⟩
    case measure=>simp [intOf];omega
   | false =>
    rw [pcs_go he,hst',<- pcsAt_snoc s ff k hff hlt] at hP;have HP2:=hide hP;rw [he] at HRD;clear hdc hrd hok hln hst' hP he;go_wp2_with fail;refine (oRead_any w.heap.size w.heap.size (stk st) s[k] w _ HO.out HSL.out).mono ?_;rintro e w1 ⟨rfl,ho1,hr1⟩;rw [HRD.out] at ho1;rw [HRD.out];have HO1:=hide ho1;have HS1:=hide (HS.out.rows hr1 ho1.below ho1.size);clear ho1 hr1;go_wp2_with fail;go_roundw
    case rel=>exact ⟨k + 1,ff,acc,st',by omega,by omega,by go_num,rfl,by omega,HS1,HO1,HOK,HLN,HP2⟩
    case measure=>simp [intOf];omega
  ·obtain rfl:k = s.size:=by omega
   obtain ⟨X,hX⟩:∃ X,s.extract ff s.size = X:=⟨_,rfl⟩
   have HX:Hid (X = str (pcsAt s ff s.size)):=hide (by rw [<- hX,pcsAt_str]);have hP:=HP.out;rw [drop_nil s s.size (Nat.le_refl _),pcs] at hP;have HP2:=hide hP;clear hP;go_wp2_with (refine wpList_strs_o rfl _ _ rfl w.heap.size u3 (acc.map str) rfl w wr X HS.out rfl (by rw [List.length_map];omega) ?_;intro v2 w2 hb2 ho2 hz2;have HS2:=hide hb2;clear hb2 ho2 hz2);go_ret;refine ⟨_,rfl,?_⟩;have h2:=HS2.out;rw [HX.out] at h2;rw [<- HP2.out]
   simpa using h2
def declVals (l:List DeclL):List Value:=l.flatMap fun f=>[Value.string (str f.1),Value.string (str f.2)]
theorem declVals_at {l:List DeclL} {j:Nat} {f:DeclL} (h:l[j]? = some f):(declVals l)[j * 2]? = some (.string (str f.1)) /\ (declVals l)[j * 2 + 1]? = some (.string (str f.2)):=by
 induction l generalizing j with
 | nil=>simp at h
 | cons g r ih =>
  cases j with
  | zero=>simp at h;subst h;exact ⟨rfl,rfl⟩
  | succ j =>
   have:=ih (j:=j) (by simpa using h);have e:declVals (g :: r) = Value.string (str g.1) :: Value.string (str g.2) :: declVals r:=rfl;rw [e,show (j + 1) * 2 = j * 2 + 1 + 1 by omega]
   simpa using this
theorem declVals_append (a b:List DeclL):declVals (a ++ b) = declVals a ++ declVals b:=by unfold declVals;rw [List.flatMap_append]
def DBuf (B:Nat) (v:Value) (l:List DeclL) (W0 w:World):Prop :=
  w.ownsRow B 142 2 v l.length (declVals l) /\ Below B W0 w /\ B <= w.heap.size
theorem info_decl:(Tryz.prog.info? 142).map (fun i=>(i.zero,i.size,i.bytes)) = some (some (.agg #[.string ByteArray.empty,.string ByteArray.empty]),2,32):=by kernel_rfl
theorem DBuf.nil {B:Nat} {W0 w:World} (hb:Below B W0 w) (hB:B <= w.heap.size):DBuf B (.slice none 0 0) [] W0 w:=⟨World.ownsRow_nil w B _ 2,hb,hB⟩
theorem DBuf.below {B:Nat} {v:Value} {l:List DeclL} {W0 w:World} (h:DBuf B v l W0 w):Below B W0 w:=h.2.1
theorem DBuf.grown {B:Nat} {v v':Value} {l l':List DeclL} {W0 w w':World} (h:DBuf B v l W0 w) (ho:w'.ownsRow B 142 2 v' l'.length (declVals l')) (hg:w.grownBy w' v.ownBlock):DBuf B v' l' W0 w' :=
 ⟨ho,h.2.1.grown hg h.2.2 (fun k hk=>(h.1.lt k hk).1),Nat.le_trans h.2.2 hg.size⟩
theorem DBuf.alloc {B:Nat} {v:Value} {l:List DeclL} {W0 w:World} (h:DBuf B v l W0 w) (o:Obj):DBuf B v l W0 (w.alloc o) :=
 ⟨h.1.alloc o,h.2.1.alloc h.2.2 o,Nat.le_trans h.2.2 ((Below.refl 0 w).alloc (Nat.zero_le _) o).size⟩
theorem DBuf.drew {B:Nat} {v:Value} {l:List DeclL} {W0 w:World} (h:DBuf B v l W0 w):DBuf B v l W0 w.drew:=⟨h.1,h.2.1.drew,h.2.2⟩
theorem DBuf.kept {B:Nat} {v:Value} {l:List DeclL} {W0 w w':World} (h:DBuf B v l W0 w) (hb:Below w.heap.size w w'):DBuf B v l W0 w' :=
 ⟨h.1.kept (row:=none) ⟨hb.os,hb.tape,hb.output,hb.size,fun k hk _=>hb.block k hk⟩ (by cases hv:v.ownBlock <;> simp),h.2.1.trans (hb.mono h.2.2),Nat.le_trans h.2.2 hb.size⟩
theorem DBuf.slice_len {B:Nat} {v:Value} {l:List DeclL} {W0 w:World} (h:DBuf B v l W0 w):∃ A c,v = .slice A l.length c:=by
 rcases h.1.2 with ⟨rfl,h0⟩ | ⟨g,cap,cur,rfl,_⟩
 ·rw [h0];exact ⟨_,_,rfl⟩
 ·exact ⟨_,_,rfl⟩
theorem DBuf.form {B:Nat} {v:Value} {l:List DeclL} {W0 w:World} (h:DBuf B v l W0 w) (hl:l ≠ []):∃ g cap,v = .slice (some ⟨g,0,none⟩) l.length cap /\ B <= g:=by
 rcases h.1.2 with ⟨rfl,h0⟩ | ⟨g,cap,cur,rfl,hg,_⟩
 ·exact absurd (List.eq_nil_of_length_eq_zero h0) hl
 ·exact ⟨g,cap,rfl,hg⟩
theorem wpList_decls {ops:Array Oper} {rest:List Oper} {o:Oper} {a:Act} {Q:Exit -> Act -> World -> Prop} {w:World} (hgd:o.guard = none) (s x:Operand)
  (ho:o.op = .call { callee:=.builtin .append,args:=#[s,x],argTypes:=#[225,225] })
  (B:Nat) (v:Value) (l:List DeclL) (hs:a.eval s = v) (W0:World) (f:DeclL) (hb:DBuf B v l W0 w) (ad:Addr)
  (hx:a.eval x = .slice (some ad) 1 1) (h0:w.cell? (ad.add 0) = some (.string (str f.1))) (h1:w.cell? (ad.add 1) = some (.string (str f.2))) (hlen:l.length + 1 <= 4398046511104)
  (h:∀ v' w',DBuf B v' (l ++ [f]) W0 w' -> wpList Tryz.prog ops Q rest (a.put o.dst v') w'):wpList Tryz.prog ops Q (o :: rest) a w:=by
 obtain ⟨i0,hi,hz0,hz1,hz2⟩:=info_parts info_decl;refine wpList_append_own _ hgd s x 225 ho B 142 i0 (.agg #[.string ByteArray.empty,.string ByteArray.empty]) 2 32 Tryz.underlying225 hi hz0 hz1 hz2 rfl (by decide) v l.length (declVals l) hs hb.1 ad 1 1 [.string (str f.1),.string (str f.2)] hx rfl ?_ ?_ (by unfold maxLen;omega) (by omega) hb.2.2 ?_
 ·intro j u hj
  match j,hj with
  | 0,hj=>simp at hj;subst hj;exact h0
  | 1,hj=>simp at hj;subst hj;exact h1
  | (j + 2),hj=>simp at hj
 ·intro u hu;simp at hu;rcases hu with rfl | rfl
  ·rfl
  ·rfl
 ·intro v' w' ho' hg _;exact h v' w' (hb.grown (l':=l ++ [f]) (by rw [declVals_append,List.length_append];exact ho') hg)
theorem DBuf.elder {B B':Nat} {v:Value} {l:List DeclL} {W0 W' w:World} (h:DBuf B v l W0 w) (hB:B' <= B) (hb:Below B' W' w):DBuf B' v l W' w:=by
 refine ⟨⟨h.1.1,?_⟩,hb,Nat.le_trans hB h.2.2⟩;rcases h.1.2 with ⟨rfl,h0⟩ | ⟨g,cap,cur,rfl,h1,h2⟩
 ·exact .inl ⟨rfl,h0⟩
 ·exact .inr ⟨g,cap,cur,rfl,Nat.le_trans hB h1,h2⟩
theorem trim_any (s:ByteArray) (w:World) (hs:s.size <= maxLen) :
  Calls Tryz.prog 197 #[.string s,.string ⟨#[32,9,10,12,13]⟩] w fun e w'=>e = .returned (.string (str (Lib.trimS s.data.toList whiteSet))) /\ Below w.heap.size w w' :=
 Any.strings_Trim_laid Tryz.lays160 (by kernel_rfl) s ⟨#[32,9,10,12,13]⟩ w (by unfold maxLen at hs;omega) (by decide) (ascii_of_all (by decide))
theorem index_cut (c:UInt8) (l:List UInt8):(Lib.indexByte l c = -1 /\ c ∉ l /\ beforeC c l = l /\ afterC c l = []) \/ ∃ o:Nat,Lib.indexByte l c = o /\ o < l.length /\ c ∈ l /\ beforeC c l = l.take o /\ afterC c l = l.drop (o + 1):=by
 induction l with
 | nil=>exact .inl ⟨rfl,by simp,rfl,rfl⟩
 | cons a r ih =>
  by_cases h:a = c
  ·subst h;have:=cut_at a (a :: r) 0 (by simp) rfl (fun j hj=>absurd hj (by omega));exact .inr ⟨0,by simp [Lib.indexByte],by simp,this.1,this.2.1,this.2.2⟩
  ·have h1:(a == c) = false:=by simp [h]
   have h2:(a != c) = true:=by simp [h]
   have eb:beforeC c (a :: r) = a :: beforeC c r:=by simp [beforeC,List.takeWhile_cons,h2]
   have ea:afterC c (a :: r) = afterC c r:=by simp [afterC,List.dropWhile_cons,h2]
   rcases ih with ⟨i1,i2,i3,i4⟩ | ⟨o,i1,i2,i3,i4,i5⟩
   ·refine .inl ⟨by simp [Lib.indexByte,h1,i1],?_,by rw [eb,i3],by rw [ea,i4]⟩;intro hm;rcases List.mem_cons.1 hm with e | e
    ·exact h e.symm
    ·exact i2 e
   ·have hne:((o:Int) == -1) = false:=by rw [beq_eq_false_iff_ne];omega
    refine .inr ⟨o + 1,by simp [Lib.indexByte,h1,i1,hne],by simp;omega,List.mem_cons_of_mem _ i3,by rw [eb,i4];rfl,by rw [ea,i5];rfl⟩
def cutV (c:UInt8) (l:List UInt8):Value:=.tuple #[.string (str (beforeC c l)),.string (str (afterC c l)),.bool (hasC c l)]
theorem ret_cut {a b x y:ByteArray} {d e:Bool} (h:a = b) (h':x = y) (h'':d = e):Ending.returned (.tuple #[.string a,.string x,.bool d]) = .returned (.tuple #[.string b,.string y,.bool e]):=by rw [h,h',h'']
theorem cut_any (s:ByteArray) (c:UInt8) (w:World) (hs:s.size <= 70368744177664) :
  Calls Tryz.prog 98 #[.string s,.string ⟨#[c]⟩] w fun e w'=>e = .returned (cutV c s.data.toList) /\ Below w.heap.size w w':=by
 have hz:(⟨#[c]⟩:ByteArray).size = 1:=rfl;rcases index_cut c s.data.toList with ⟨i1,i2,i3,i4⟩ | ⟨o,i1,i2,i3,i4,i5⟩
 ·have I1:=hide i1;have I2:=hide i2;have I3:=hide i3;have I4:=hide i4;clear i1 i2 i3 i4;go_enter Tryz.func98,Tryz.ntmps98;go_wp2_with fail;refine (Tryz.stringslite_Index_one s c _).mono ?_;rintro e w1 ⟨rfl,hw⟩;subst hw;rw [I1.out];go_wp2_with fail;go_ret3;exact ⟨ret_cut (by rw [I3.out,str_of]) (by rw [I4.out];rfl) (by rw [hasC_false I2.out]),Below.refl _ _⟩
 ·have I1:=hide i1;have I3:=hide i3;have I4:=hide i4;have I5:=hide i5;rw [toList_length] at i2;have o1:(o:Int) + 1 <= s.size:=by omega
  have o0:(0:Int) <= o:=by omega
  have o2:(o:Int) <= s.size:=by omega
  have o3:(0:Int) <= (o:Int) + 1:=by omega
  have o4:((o:Int) + 1).toNat = o + 1:=by omega
  clear i1 i3 i4 i5;go_enter Tryz.func98,Tryz.ntmps98;go_wp2_with fail;refine (Tryz.stringslite_Index_one s c _).mono ?_;rintro e w1 ⟨rfl,hw⟩;subst hw;rw [I1.out];go_wp2_with fail;go_region
  all_goals (try go_wp2)
  all_goals
   go_ret3;exact ⟨ret_cut (ext_list (by rw [extract_list,List.drop_zero,str_toList,I4.out])) (ext_list (by rw [extract_end,str_toList,I5.out])) (by rw [hasC_true I3.out]),(Below.refl _ _).drew⟩
theorem strCut_any (s:ByteArray) (c:UInt8) (w:World) (hs:s.size <= 70368744177664) :
  Calls Tryz.prog 70 #[.string s,.string ⟨#[c]⟩] w fun e w'=>e = .returned (cutV c s.data.toList) /\ Below w.heap.size w w':=by
 go_enter Tryz.func70,Tryz.ntmps70;go_wp2_with fail;refine (cut_any s c _ hs).mono ?_;rintro e w1 ⟨rfl,hb⟩;unfold cutV;go_wp2_with fail;go_ret3;exact ⟨rfl,hb⟩
theorem strTrim_any (l:List UInt8) (w:World) (hs:l.length <= 1048576) :
  Calls Tryz.prog 197 #[.string (str l),.string ⟨#[32,9,10,12,13]⟩] w fun e w'=>e = .returned (.string (str (trimV l))) /\ Below w.heap.size w w' :=
 (trim_any (str l) w (by rw [str_size];unfold maxLen;omega)).mono fun e w' ⟨he,hb⟩=>⟨by rw [he,str_toList,trim_eq,lr];rfl,hb⟩
theorem before_len (l:List UInt8):(beforeC 58 l).length <= l.length:=(List.takeWhile_sublist _).length_le
theorem after_len (l:List UInt8):(afterC 58 l).length <= l.length:=by have:=before_after l;omega
theorem isEmptyT {a:List UInt8} (h:a = []):(str a).toList.isEmpty = true:=by rw [str_list,h];rfl
theorem isEmptyF {a:List UInt8} (h:a ≠ []):(str a).toList.isEmpty = false:=by
 rw [str_list];cases a with
 | nil=>exact absurd rfl h
 | cons _ _=>rfl
theorem lowL_nil {a:List UInt8}:lowL a = [] ↔ a = []:=by
 constructor
 ·intro h;have:=lowL_length a;rw [h] at this;exact List.eq_nil_of_length_eq_zero this.symm
 ·intro h;rw [h];rfl
theorem piece_len {st:CSt} {cur l:List UInt8} {p:List UInt8} (h:p ∈ pcs st cur l):p.length + 1 <= cur.length + l.length + 1:=by
 have h1:=pcs_weight l st cur
 have h2:∀ (P:List (List UInt8)),p ∈ P -> p.length + 1 <= pieceW P:=by
  intro P;unfold pieceW
  induction P with
  | nil=>intro h;cases h
  | cons a r ih =>
   intro h;rw [List.map_cons,List.sum_cons];rcases List.mem_cons.1 h with rfl | h
   ·omega
   ·have:=ih h;omega
 have:=h2 _ h;omega
theorem pcs_count (st:CSt) (cur l:List UInt8):(pcs st cur l).length <= cur.length + l.length + 1:=by
 have h1:=pcs_weight l st cur
 have h2:∀ (P:List (List UInt8)),P.length <= pieceW P:=by
  intro P;unfold pieceW
  induction P with
  | nil=>exact Nat.le_refl _
  | cons a r ih=>rw [List.map_cons,List.sum_cons,List.length_cons];omega
 have:=h2 (pcs st cur l);omega
theorem cssCut_any (s:ByteArray) (w:World) (hs:s.size <= 1048575) :
  Calls Tryz.prog 182 #[.string s] w fun e w'=>∃ v,e = .returned v /\ DBuf w.heap.size v (cutD s.data.toList) w w':=by
 obtain ⟨P,hP⟩:∃ P,pcs st0 [] s.data.toList = P:=⟨_,rfl⟩
 have hcount:=pcs_count st0 [] s.data.toList;rw [hP,toList_length] at hcount
 have HPL:Hid (∀ p ∈ P,p.length <= 1048575):=hide (fun p hp=>by
  have:=piece_len (st:=st0) (cur:=[]) (l:=s.data.toList) (by rw [hP];exact hp);rw [toList_length] at this;simp at this;omega)
 have HCD:Hid (cutD s.data.toList = P.filterMap declL):=hide (by unfold cutD;rw [hP]);have HP:=hide hP;clear hP;have hn0:P.length <= 1048576:=by simp at hcount;omega
 clear hcount;go_enter Tryz.func182,Tryz.ntmps182;go_wp2_with fail;refine (pieces_any s w hs).mono ?_;rintro e w1 ⟨v0,rfl,hsb⟩;rw [HP.out] at hsb;have HB1:=hide hsb.below;have hz1:=hsb.2.2;have HD0:Hid (DBuf w.heap.size (.slice none 0 0) [] w w1):=hide (DBuf.nil hsb.below hz1);rcases hsb.form with ⟨rfl,hnil⟩ | ⟨g,cap,rfl,hc1,hc2,hg1,hg2,hcell⟩
 ·have hPn:P = []:=by simpa using hnil
  have HE:Hid (cutD s.data.toList = []):=hide (by rw [HCD.out,hPn];rfl);clear hsb hnil hPn;go_wp2_with fail;go_loopw [3,12] (fun v i wr=>v = .slice none 0 0 /\ i = .int .i64 0 /\ wr = w1) (fun _ _ _=>0)
  case atStart=>exact ⟨rfl,rfl,rfl⟩
  case round =>
   obtain ⟨rfl,rfl,rfl⟩:=hrel;go_wp2_with fail;go_ret;exact ⟨_,rfl,by rw [HE.out];exact HD0.out⟩
 ·rw [List.length_map] at hc1;have hlm:(P.map str).length = P.length:=List.length_map ..;obtain ⟨n,hn⟩:∃ n,n = P.length:=⟨_,rfl⟩
  rw [hlm,<- hn];have hn1:n <= 1048576:=by omega
  have HCELL:Hid (∀ j,(hj:j < P.length) -> w1.cell? ⟨g,j,none⟩ = some (.string (str P[j]))):=hide (fun j hj=>by
   have:=hcell j (str P[j]) (by simp [hj])
   rwa [Nat.zero_add] at this)
  have HN:=hide hn;have hnc:n <= cap:=by omega
  have HD0':Hid (DBuf w1.heap.size (.slice none 0 0) [] w1 w1):=hide (DBuf.nil (Below.refl _ _) (Nat.le_refl _));clear hsb hc1 hc2 hg1 hcell hlm hn hn0;go_wp2_with fail;go_loopw [3,12] (fun v i wr=>∃ (k:Nat) (D:List DeclL),k <= n /\ i = .int .i64 k /\ D.length <= k /\ Hid (DBuf w1.heap.size v D w1 wr) /\ Hid (D ++ (P.drop k).filterMap declL = P.filterMap declL)) (fun _ i _=>n - (intOf i).toNat)
  case atStart=>exact ⟨0,[],Nat.zero_le _,rfl,Nat.le_refl _,HD0',hide (by simp)⟩
  case round =>
   obtain ⟨k,D,hk,rfl,hD,HD,HR⟩:=hrel;have HBW:=hide HD.out.below
   by_cases hlt:k < n
   ·have hkP:k < P.length:=by rw [<- HN.out];exact hlt
    obtain ⟨p,hp⟩:∃ p,P[k] = p:=⟨_,rfl⟩
    have hpm:p ∈ P:=by rw [<- hp];exact List.getElem_mem hkP
    have hpl:=HPL.out p hpm;have hcell:=(HBW.out.cell (p:=⟨g,k,none⟩) hg2).trans (HCELL.out k hkP);rw [hp] at hcell;have hR:=HR.out;rw [List.drop_eq_getElem_cons hkP,hp,List.filterMap_cons] at hR;have HPL0:Hid ((str p).size <= 70368744177664):=hide (by rw [str_size];omega);have HCV:Hid (cutV 58 (str p).data.toList = .tuple #[.string (str (beforeC 58 p)),.string (str (afterC 58 p)),.bool (hasC 58 p)]):=hide (by unfold cutV;rw [str_toList]);have HBL:Hid ((beforeC 58 p).length <= 1048576):=hide (by have:=before_len p;omega);have HAL:Hid ((afterC 58 p).length <= 1048576):=hide (by have:=after_len p;omega);have HLL:Hid ((str (trimV (beforeC 58 p))).size <= 70368744177664):=hide (by rw [str_size];have:=trimV_len (beforeC 58 p);have:=before_len p;omega);obtain ⟨N1,hN1⟩:∃ N1,str (trimV (beforeC 58 p)) = N1:=⟨_,rfl⟩
    obtain ⟨V1,hV1⟩:∃ V1,str (trimV (afterC 58 p)) = V1:=⟨_,rfl⟩
    have HN1:=hide hN1;have HV1:=hide hV1;rw [hN1] at HLL
    by_cases hnone:trimV (beforeC 58 p) = []
    ·have t1:N1.toList.isEmpty = true:=by rw [<- hN1];exact isEmptyT hnone
     have hdn:declL p = none:=by unfold declL;rw [if_pos (.inl (lowL_nil.2 hnone))]
     rw [hdn] at hR;have HR2:=hide hR;clear hkP hp hpm hpl hR hN1 hV1 hnone hdn;go_wp2_with fail;refine (strCut_any (str p) 58 _ HPL0.out).mono ?_;rintro e w2 ⟨rfl,hb2⟩;have HD2:=hide (HD.out.kept hb2);clear hb2;rw [HCV.out];go_wp2_with fail;refine (strTrim_any _ _ HBL.out).mono ?_;rintro e w3 ⟨rfl,hb3⟩;have HD3:=hide (HD2.out.kept hb3);clear hb3;rw [HN1.out];go_wp2_with fail;refine (strTrim_any _ _ HAL.out).mono ?_;rintro e w4 ⟨rfl,hb4⟩;have HD4:=hide (HD3.out.kept hb4);clear hb4;rw [HV1.out];go_wp2_with fail;go_roundw
     case rel=>exact ⟨k + 1,D,by omega,by go_num,by omega,HD4,HR2⟩
     case measure=>simp [intOf];omega
    have t1:N1.toList.isEmpty = false:=by rw [<- hN1];exact isEmptyF hnone
    by_cases hvn:trimV (afterC 58 p) = []
    ·have t2:V1.toList.isEmpty = true:=by rw [<- hV1];exact isEmptyT hvn
     have hdn:declL p = none:=by unfold declL;rw [if_pos (.inr hvn)]
     rw [hdn] at hR;have HR2:=hide hR;clear hkP hp hpm hpl hR hN1 hV1 hnone hvn hdn;go_wp2_with fail;refine (strCut_any (str p) 58 _ HPL0.out).mono ?_;rintro e w2 ⟨rfl,hb2⟩;have HD2:=hide (HD.out.kept hb2);clear hb2;rw [HCV.out];go_wp2_with fail;refine (strTrim_any _ _ HBL.out).mono ?_;rintro e w3 ⟨rfl,hb3⟩;have HD3:=hide (HD2.out.kept hb3);clear hb3;rw [HN1.out];go_wp2_with fail;refine (strTrim_any _ _ HAL.out).mono ?_;rintro e w4 ⟨rfl,hb4⟩;have HD4:=hide (HD3.out.kept hb4);clear hb4;rw [HV1.out];go_wp2_with fail;go_roundw
     case rel=>exact ⟨k + 1,D,by omega,by go_num,by omega,HD4,HR2⟩
     case measure=>simp [intOf];omega
    have t2:V1.toList.isEmpty = false:=by rw [<- hV1];exact isEmptyF hvn
    obtain ⟨d,hd⟩:∃ d:DeclL,d = (lowL (trimV (beforeC 58 p)),trimV (afterC 58 p)):=⟨_,rfl⟩
    have hdn:declL p = some d:=by unfold declL;rw [if_neg (fun h=>h.elim (fun h=>hnone (lowL_nil.1 h)) hvn),hd]
    rw [hdn] at hR;have HR2:Hid ((D ++ [d]) ++ (P.drop (k + 1)).filterMap declL = P.filterMap declL):=hide (by rw [<- hR];simp);obtain ⟨X,hX⟩:∃ X,str (lowL N1.data.toList) = X:=⟨_,rfl⟩
    have HX:=hide hX;have HXX:Hid (X = str d.1 /\ V1 = str d.2):=hide ⟨by rw [<- hX,<- hN1,str_toList,hd],by rw [<- hV1,hd]⟩;clear hkP hp hpm hpl hR hN1 hV1 hnone hvn hdn hd hX;go_wp2_with fail;refine (strCut_any (str p) 58 _ HPL0.out).mono ?_;rintro e w2 ⟨rfl,hb2⟩;have HD2:=hide (HD.out.kept hb2);clear hb2;rw [HCV.out];go_wp2_with fail;refine (strTrim_any _ _ HBL.out).mono ?_;rintro e w3 ⟨rfl,hb3⟩;have HD3:=hide (HD2.out.kept hb3);clear hb3;rw [HN1.out];go_wp2_with fail;refine (strTrim_any _ _ HAL.out).mono ?_;rintro e w4 ⟨rfl,hb4⟩;have HD4:=hide (HD3.out.kept hb4);clear hb4;rw [HV1.out];go_wp2_with fail;refine (lower_any _ _ HLL.out).mono ?_;rintro e w5 ⟨rfl,hb5⟩;have HD5:=hide (HD4.out.kept hb5);clear hb5;rw [HX.out];go_wp2_with (at_builtin;go_must (refine wpList_decls rfl _ _ rfl w1.heap.size u3 D rfl w1 d (HD5.out.alloc _) ⟨w5.heap.size,0,none⟩ rfl (by rw [Addr.add_lit,World.cell?_alloc_at _ _ _ _ rfl];show some (Value.string X) = some (Value.string (str d.1));rw [<- HXX.out.1]) (by rw [Addr.add_lit,World.cell?_alloc_at _ _ _ _ rfl];show some (Value.string V1) = some (Value.string (str d.2));rw [<- HXX.out.2]) (by omega) ?_;intro v6 w6 hb6;have HD6:=hide hb6;clear hb6));go_roundw
    case rel=>exact ⟨k + 1,D ++ [d],by omega,by go_num,by simp;omega,HD6,HR2⟩
    case measure=>simp [intOf];omega
   ·have HE:Hid (cutD s.data.toList = D):=hide (by
     have:=HR.out;rw [List.drop_eq_nil_of_le (by have:=HN.out;omega)] at this;rw [HCD.out,<- this];simp)
    go_wp2_with fail;go_ret;exact ⟨_,rfl,by rw [HE.out];exact HD.out.elder hz1 (HB1.out.trans (HD.out.below.mono hz1))⟩
end Go.Proofs.YtmgpmdfmkdhfgaaGreatDoor
namespace Go.Proofs.YtmgpmdfmkdhfgaaGreatDoor
open Go.RowKit Go.Shelf
set_option linter.unusedVariables false
set_option linter.unusedSimpArgs false
set_option maxRecDepth 100000
attribute [local go_sem] Oper.semAt_some
abbrev IdxL:=Nat × DeclL
def backN (D:List DeclL):Nat -> List IdxL
  | 0=>[]
  | k + 1=>(k,D.getD k ([],[])) :: backN D k
abbrev encsD (x:IdxL):Array Value:=#[.int .i64 x.1,.agg #[.string (str x.2.1),.string (str x.2.2)]]
def RowKept (g Bn:Nat) (A B:World):Prop:=(∀ o,B.cell? ⟨g,o,none⟩ = A.cell? ⟨g,o,none⟩) /\ B.cell? ⟨Bn,0,none⟩ = A.cell? ⟨Bn,0,none⟩
theorem RowKept.refl (g Bn:Nat) (A:World):RowKept g Bn A A:=⟨fun _=>rfl,rfl⟩
theorem RowKept.trans {g Bn:Nat} {A B C:World} (h:RowKept g Bn A B) (k:RowKept g Bn B C):RowKept g Bn A C:=⟨fun o=>(k.1 o).trans (h.1 o),k.2.trans h.2⟩
def DeclsAt (g:Nat) (D:List DeclL) (W:World):Prop:=∀ j (h:j < D.length),W.cell? ⟨g,j * 2,none⟩ = some (.string (str D[j].1)) /\ W.cell? ⟨g,j * 2 + 1,none⟩ = some (.string (str D[j].2))
theorem DeclsAt.kept {g Bn:Nat} {D:List DeclL} {A B:World} (h:DeclsAt g D A) (k:RowKept g Bn A B):DeclsAt g D B:=fun j hj=>⟨(k.1 _).trans (h j hj).1,(k.1 _).trans (h j hj).2⟩
set_option maxHeartbeats 2000000 in
theorem back1_in (n:Nat) (hn:2 <= n) (l Bn g cap:Nat) (A:Option Addr) (D:List DeclL) (hD:D.length <= 1048576) (hA:D ≠ [] -> A = some ⟨g,0,none⟩) (J Jx:List IdxL -> World -> Prop)
  (hY:∀ pre x W,x.2 ∈ D -> J pre W -> pre.length < D.length -> YieldAt Fence.wide (n - 1) Tryz.prog l (encsD x) W fun e W' =>
   (e = .returned (.bool true) /\ J (pre ++ [x]) W' /\ RowKept g Bn W W') \/ (e = .returned (.bool false) /\ Jx (pre ++ [x]) W'))
  (W:World) (hBn:W.cell? ⟨Bn,0,none⟩ = some (.slice A D.length cap)) (hc:DeclsAt g D W) (h0:J [] W) :
  CallsIn Fence.wide n Tryz.prog 201 #[.func (.yield l) #[] #[],.pointer (some ⟨Bn,0,none⟩)] W fun e W'=>(∃ v,e = .returned v) /\
   ((∃ ys,ys = backN D D.length /\ J ys W') \/ (∃ pre,pre <+: backN D D.length /\ Jx pre W')):=by
 refine callsIn_of_wp Tryz.func201 rfl trivial ?_ rfl;simp only [Tryz.ntmps201,List.size_toArray,List.length_cons,List.length_nil,Nat.reduceAdd,Nat.reduceSub,Array.replicate_succ,Array.replicate_zero,List.push_toArray,List.append_toArray,List.nil_append,List.cons_append];obtain ⟨N,hN⟩:∃ N,N = D.length:=⟨_,rfl⟩
 rw [<- hN] at hBn hD hY;have HN:=hide hN;have HC:=hide hc;have HY:=hide hY;have HA:=hide hA;have HBN:=hide hBn;have HJ0:=hide h0;clear hN hc hY hA h0
 gi_wp2
 gi_loopw [3] (fun i wr=>∃ pre:List IdxL,Hid (J pre wr) /\ Hid (RowKept g Bn W wr) /\ ((i = .int .i64 (-1) /\ Hid (pre = backN D N)) \/ ∃ m:Nat,m < N /\ i = .int .i64 m /\ Hid (pre ++ backN D (m + 1) = backN D N) /\ Hid (pre.length + (m + 1) = N)))
  (fun i _=>(intOf i + 1).toNat)
 case atStart =>
  refine ⟨[],HJ0,hide (RowKept.refl _ _ _),?_⟩;rcases Nat.eq_zero_or_pos N with h | h
  ·exact .inl ⟨by rw [h];rfl,hide (by rw [h];rfl)⟩
  ·refine .inr ⟨N - 1,by omega,congrArg (Value.int .i64) (by omega),hide (by rw [show N - 1 + 1 = N by omega];rfl),hide (by simp;omega)⟩
 case round =>
  obtain ⟨pre,HJ,HK,⟨rfl,HP⟩ | ⟨m,hm,rfl,HP,HL⟩⟩:=hrel
  ·gi_wp2
   go_end0;exact ⟨⟨_,rfl⟩,.inl ⟨pre,by rw [HP.out,HN.out],HJ.out⟩⟩
  ·have hmD:m < D.length:=by rw [<- HN.out];exact hm
   obtain ⟨d,hd⟩:∃ d,D[m] = d:=⟨_,rfl⟩
   have hcells:=(HC.out.kept HK.out) m hmD;rw [hd] at hcells;obtain ⟨c0,c1⟩:=hcells;have hA:A = some ⟨g,0,none⟩:=HA.out (by rintro rfl;simp at hmD);have hbn:=HK.out.2.trans HBN.out;rw [hA] at hbn;have hgd:D.getD m ([],[]) = d:=by rw [List.getD_eq_getElem?_getD,List.getElem?_eq_getElem hmD,hd];rfl
   have HP2:Hid ((pre ++ [(m,d)]) ++ backN D m = backN D N):=hide (by
    have:=HP.out;rw [backN,hgd] at this;rw [<- this];simp)
   have hdm:(m,d).2 ∈ D:=by rw [<- hd];exact List.getElem_mem hmD
   have HR:=hide (fun W=>HY.out pre (m,d) W hdm);have HLT:Hid (pre.length < N):=hide (by have:=HL.out;omega);have hi1:m * 2 <= 2097152:=by omega
   clear hmD hd hgd hA hdm;obtain ⟨fn,tmps,assign,body,hy,hRd⟩:=HR.out wr HJ.out HLT.out
   dsimp only [encsD] at hy
   gi_wp2
   refine ⟨fun _=>(by omega),hRd.mono ?_⟩;rintro e W3 (⟨rfl,hJ3,hk3⟩ | ⟨rfl,hJx3⟩)
   ·gi_wp2
    go_roundw
    case rel =>
     refine ⟨pre ++ [(m,d)],hJ3,hide (HK.out.trans hk3),?_⟩;rcases Nat.eq_zero_or_pos m with h | h
     ·subst h;exact .inl ⟨rfl,hide (by have:=HP2.out;simpa [backN] using this)⟩
     ·obtain ⟨q,rfl⟩:∃ q,m = q + 1:=⟨m - 1,by omega⟩
      exact .inr ⟨q,by omega,congrArg (Value.int .i64) (by omega),HP2,hide (by have:=HL.out;simp;omega)⟩
    case measure=>first | (simp [intOf];done) | (simp [intOf];omega)
   ·gi_wp2
    refine bodyPost_ret (results_none rfl _ _ _) rfl ?_;exact ⟨⟨_,rfl⟩,.inr ⟨pre ++ [(m,d)],by rw [<- HN.out];exact ⟨_,HP2.out⟩,hJx3⟩⟩
set_option maxHeartbeats 1000000 in
theorem back_in (n:Nat) (hn:1 <= n) (A:Option Addr) (k cap:Nat) (w:World) :
  CallsIn Fence.wide n Tryz.prog 181 #[.slice A k cap] w fun e w'=>e = .returned (.func (.func 201) #[] #[.pointer (some ⟨w.heap.size,0,none⟩)]) /\ w' = w.alloc (.cells #[.slice A k cap] 225):=by
 refine callsIn_of_wp Tryz.func181 rfl trivial ?_ rfl;simp only [Tryz.ntmps181,List.size_toArray,List.length_cons,List.length_nil,Nat.reduceAdd,Nat.reduceSub,Array.replicate_succ,Array.replicate_zero,List.push_toArray,List.append_toArray,List.nil_append,List.cons_append]
 gi_wp2
 go_ret;exact ⟨rfl,rfl⟩
abbrev BackP (D:List DeclL):={ x:IdxL // x.2 ∈ D }
abbrev encsB (D:List DeclL) (x:BackP D):Array Value:=encsD x.1
theorem back_stops (n:Nat) (hn:2 <= n) (Bn g cap:Nat) (A:Option Addr) (D:List DeclL) (hD:D.length <= 1048576) (hA:D ≠ [] -> A = some ⟨g,0,none⟩) (w:World) (hBn:Bn < w.heap.size) (hg:g < w.heap.size)
  (hc:w.cell? ⟨Bn,0,none⟩ = some (.slice A D.length cap)) (hd:DeclsAt g D w) :
  SeqStopsK Fence.wide n Tryz.prog 201 #[.pointer (some ⟨Bn,0,none⟩)] (encsB D) (RowKept g Bn) (fun ys=>ys.map (·.1) = backN D D.length) (fun pre=>pre.map (·.1) <+: backN D D.length) D.length w:=fun l J Jx W hW hJ hJx hY h0=>by
 refine (back1_in n hn l Bn g cap A D hD hA (fun pre W=>∃ q:List (BackP D),q.map (·.1) = pre /\ J q W) (fun pre W=>∃ q:List (BackP D),q.map (·.1) = pre /\ Jx q W) ?_ W ((hW.cell (p:=⟨Bn,0,none⟩) hBn).trans hc) (fun j hj=>⟨(hW.cell (p:=⟨g,j * 2,none⟩) hg).trans (hd j hj).1,(hW.cell (p:=⟨g,j * 2 + 1,none⟩) hg).trans (hd j hj).2⟩) ⟨[],rfl,h0⟩).mono ?_
 ·rintro pre x W hx ⟨q,rfl,hj⟩ hl;refine (hY q ⟨x,hx⟩ W hj (by simpa using hl)).mono ?_;rintro e W' (⟨rfl,h2,h3⟩ | ⟨rfl,h2⟩)
  ·exact .inl ⟨rfl,⟨_,by simp,h2⟩,h3⟩
  ·exact .inr ⟨rfl,⟨_,by simp,h2⟩⟩
 ·rintro e W' ⟨hv,(⟨ys,rfl,q,hq,hj⟩ | ⟨pre,hp,q,rfl,hj⟩)⟩
  ·exact ⟨hv,.inl ⟨q,hq,hj⟩⟩
  ·exact ⟨hv,.inr ⟨q,hp,hj⟩⟩
end Go.Proofs.YtmgpmdfmkdhfgaaGreatDoor
