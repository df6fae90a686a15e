/- More of the first texts of this claim in one: each with its own head. No statement is proved here. -/
import Derived.Test.YtiejmkjpgjbodaaGreatDoorBaseN
import Derived.Test.YtiejmkjpgjbodaaGreatDoorBaseO
import Derived.Lib.Replace
import Derived.Test.YtiejmkjpgjbodaaGreatDoorBaseM
import Derived.Defers
import Derived.Laws.Pointers
import Derived.Laws.LoneSync
import Derived.RegionTactic
import Derived.RegionCalls
import Derived.ChangeAlike
import Derived.Laws.NewBlocks
import Derived.BigQuiet
import Derived.Deep.QuietTactic
import Derived.Laws.OwnMore
import Derived.Below
namespace Go.Proofs.YtiejmkjpgjbodaaGreatDoor
open Go.RowKit
set_option linter.unusedVariables false
set_option linter.unusedSimpArgs false
set_option maxRecDepth 100000
set_option maxHeartbeats 16000000
def KM (w w':World):Prop:=∀ (m:Nat) es c,w.heap[m]? = some (Obj.map es c) -> w'.heap[m]? = some (Obj.map es c)
theorem KM.refl (w:World):KM w w:=fun _ _ _ h=>h
theorem KM.trans {a b c:World} (h:KM a b) (k:KM b c):KM a c:=fun m es x hm=>k m es x (h m es x hm)
theorem KM.alloc (w:World) (o:Obj):KM w (w.alloc o):=fun m es x hm=>(Below.heap_alloc w o m (Array.getElem?_eq_some_iff.1 hm).1).trans hm
theorem KM.below {w w':World} (h:Below w.heap.size w w'):KM w w':=fun m es x hm=>(h.block m (Array.getElem?_eq_some_iff.1 hm).1).trans hm
theorem KM.set {w:World} {b:Nat} {cs:Array Value} {t:TypeId} {fr:Nat × Nat} (h:w.heap[b]? = some (.cells cs t fr)) (i:Nat) (v:Value):KM w (w.setCell ⟨b,i,none⟩ v):=fun m es x hm=>by
 have hne:m ≠ b:=by rintro rfl;rw [h] at hm;cases hm
 exact (Below.heap_setCell w _ v m hne).trans hm
theorem KM.own {w w':World} {B n:Nat} {e:TypeId} {v:Value} {xs:List Value} (h:w.ownsRow B e 1 v n xs) (hg:w.grownBy w' v.ownBlock):KM w w':=fun m es x hm=>by
 refine (hg.block m (Array.getElem?_eq_some_iff.1 hm).1 (fun he=>?_)).trans hm;rcases h.2 with ⟨rfl,_⟩ | ⟨g,cap,cur,rfl,_,hh,_⟩
 ·simp [Value.ownBlock] at he
 ·have e1:g = m:=by simpa [Value.ownBlock] using he.symm
  subst e1;rw [hh] at hm;cases hm
theorem copyCheckM_any (B b:Nat) (bs:List Value) (w:World) (h:Lib.IsBuilder 78 5 B b bs w) :
  Calls Tryz.prog 103 #[.pointer (some ⟨b,0,none⟩)] w fun e w'=>e = .returned (.tuple #[]) /\ Lib.BuilderAt 78 5 B b (.pointer (some ⟨b,0,none⟩)) bs w' /\ Below B w w' /\ KM w w':=by
 rcases h with h | h
 ·obtain ⟨hB,v,hbk,ho,hne⟩:=id h;refine (copyCheck_fresh b w h.cell0 h.shape h.frozen0).mono ?_;rintro e w' ⟨rfl,rfl⟩;exact ⟨rfl,h.used _,(Below.refl B w).setCell (p:=⟨b,0,none⟩) h.1 _,KM.set hbk _ _⟩
 ·refine (copyCheck_used b w h.cell0).mono ?_;rintro e w' ⟨rfl,rfl⟩;exact ⟨rfl,h,Below.refl B _,KM.refl _⟩
theorem writeStringM_any (B b : Nat) (l : List UInt8) (s : ByteArray) (W0 w : World) (h : Bld B b l W0 w) (hlen : l.length + s.size ≤ 140737488355328) :
    Calls Tryz.prog 64 #[.pointer (some ⟨b, 0, none⟩), .string s] w fun e w' => e = .returned (.tuple #[.int .i64 s.size, .nilIface]) ∧ Bld B b (l ++ s.data.toList) W0 w' ∧ KM w w' := by
  obtain ⟨h, hbel, hBw⟩ := h
  obtain ⟨i0, hi, hz0, hz1, hz2⟩ := info_parts info_u8
  have HBL := hide hbel
  clear hbel
  go_enter Tryz.func64, Tryz.ntmps64
  go_wp2_with fail
  refine (copyCheckM_any B b (cellsOf l) _ h).mono ?_
  rintro e w1 ⟨rfl, h1, hb1, hk1⟩
  have HK1 := hide hk1
  clear hk1
  obtain ⟨hB, v, hbk, hown, hne⟩ := h1
  have c1 : w1.cell? ⟨b, 1, none⟩ = some v := by rw [Lib.cell_of_heap hbk]; rfl
  have hlt : b < w1.heap.size := lt_of_block hbk
  have hl1 : (cellsOf l).length = l.length := cellsOf_length l
  have HBK := hide hbk
  have HOWN := hide hown
  have HNE := hide hne
  have HB1 := hide hb1
  have hsz1 := hb1.size
  have HI := hide hi
  have HZ0 := hide hz0
  have HZ1 := hide hz1
  have HZ2 := hide hz2
  have HL1 := hide hl1
  clear hbk hown hne hb1 hi hz0 hz1 hz2 h
  go_wp2_with (refine Lib.wpList_append_own_string _ rfl _ _ 56 9 rfl B 5 i0 Tryz.underlying56 Tryz.underlying9 HI.out HZ0.out HZ1.out HZ2.out v (cellsOf l).length (cellsOf l) rfl HOWN.out s rfl (by rw [HL1.out]; unfold maxLen; omega) (by rw [HL1.out]; omega) (by omega) ?_
               intro v' w2 hown' hgrow _
               obtain ⟨ao, n', cap, rfl⟩ : ∃ ao n' cap, v' = .slice ao n' cap := by
                 rcases hown'.2 with ⟨hv, _⟩ | ⟨g, cap, cur, hv, _⟩
                 · exact ⟨_, _, _, hv⟩
                 · exact ⟨_, _, _, hv⟩
               have hb2 : w2.heap[b]? = some (.cells #[.pointer (some ⟨b, 0, none⟩), v] 78 (0, 0)) := by
                 rw [hgrow.block b hlt (fun e => HNE.out e.symm)]
                 exact HBK.out
               have d1 : w2.cell? ⟨b, 1, none⟩ = some v := by rw [Lib.cell_of_heap hb2]; rfl
               have f1 : w2.frozen? ⟨b, 1, none⟩ = false := Lib.frozen_of_heap hb2 1
               have HKM := hide (HK1.out.trans (KM.own HOWN.out hgrow))
               have HO2 := hide hown'
               have HG2 := hide hgrow
               have HB2 := hide hb2
               clear hown' hgrow hb2)
  go_ret2
  have hb3 : Below B w w2 := HB1.out.grown HG2.out (by omega) (fun k hk => (HOWN.out.lt k hk).1)
  refine ⟨rfl, ⟨.inr ?_, (HBL.out.trans hb3).setCell (p := ⟨b, 1, none⟩) hB _, ?_⟩, HKM.out.trans (KM.set HB2.out _ _)⟩
  · refine Lib.BuilderAt.put (T := 78) (e := 5) hB HB2.out (bs' := cellsOf (l ++ s.data.toList)) ?_ (by decide)
    have ho := HO2.out
    have e1 : cellsOf (l ++ s.data.toList) = cellsOf l ++ Lib.strCells s := by rw [cellsOf_str, cellsOf, List.map_append]; rfl
    rw [e1, List.length_append, Lib.strCells_length]
    exact ho
  · have := hb3.size
    simp [World.setCell]
    omega
theorem SMapN.km {w w':World} {b n:Nat} {f:List UInt8 -> Option Int} (h:SMapN w b n f) (hk:KM w w'):SMapN w' b n f:=by
 obtain ⟨D,⟨es,c,h1,h2,h3,h4⟩,h5⟩:=h;exact ⟨D,⟨es,c,hk b es c h1,h2,h3,h4⟩,h5⟩
theorem writeRuneM_any (B b : Nat) (l : List UInt8) (r : Int) (h0 : 0 ≤ r) (h1r : r ≤ 1114111) (W0 w : World) (h : Bld B b l W0 w) (hlen : l.length + 4 ≤ 140737488355328) :
    Calls Tryz.prog 119 #[.pointer (some ⟨b, 0, none⟩), .int .i32 r] w fun e w' => (∃ n, e = .returned (.tuple #[.int .i64 n, .nilIface])) ∧ Bld B b (l ++ runeL r) W0 w' ∧ KM w w' := by
  obtain ⟨h, hbel, hBw⟩ := h
  have HBL := hide hbel
  clear hbel
  go_enter Tryz.func119, Tryz.ntmps119
  go_wp2_with fail
  refine (copyCheckM_any B b (cellsOf l) _ h).mono ?_
  rintro e w1 ⟨rfl, h1, hb1, hk1⟩
  have HK1 := hide hk1
  clear hk1
  obtain ⟨hB, v, hbk, hown, hne⟩ := h1
  have c1 : w1.cell? ⟨b, 1, none⟩ = some v := by rw [Lib.cell_of_heap hbk]; rfl
  have hlt : b < w1.heap.size := lt_of_block hbk
  have hl1 : (cellsOf l).length = l.length := cellsOf_length l
  rw [hl1] at hown
  obtain ⟨A, cp, rfl⟩ : ∃ A cp, v = .slice A l.length cp := by
    rcases hown.2 with ⟨hv, hz⟩ | ⟨g, cap, cur, hv, _⟩
    · rw [hz]; exact ⟨_, _, hv⟩
    · exact ⟨_, _, hv⟩
  have HBK := hide hbk
  have HOWN := hide hown
  have HNE := hide hne
  have HB1 := hide hb1
  have hsz1 := hb1.size
  have HAR := hide (Tryz.utf8_AppendRune_plain B (.slice A l.length cp) l.length (cellsOf l) r (by omega) (by omega) w1 hown (by omega) (by omega))
  clear hbk hown hne hb1 h hl1
  go_wp2_with (go_at_call 147; refine HAR.out.mono ?_; rintro e w2 ⟨v', rfl, ho, o, hg⟩
               have e1 : Lib.runeCells r = cellsOf (runeL r) := (Lib.byteCells_encodeRune r).symm
               have e2 : (Lib.runeCells r).length = (runeL r).length := by rw [e1, cellsOf_length]
               rw [e2, e1] at ho
               obtain ⟨ao, cap, rfl⟩ : ∃ ao cap, v' = .slice ao (l.length + (runeL r).length) cap := by
                 rcases ho.2 with ⟨hv, hz⟩ | ⟨g, cap, cur, hv, _⟩
                 · rw [hz]; exact ⟨_, _, hv⟩
                 · exact ⟨_, _, hv⟩
               have hb2 : w2.heap[b]? = some (.cells #[.pointer (some ⟨b, 0, none⟩), .slice A l.length cp] 78 (0, 0)) := by
                 rw [hg.block b (Nat.lt_of_lt_of_le hlt ((Below.refl 0 w1).alloc (Nat.zero_le _) o).size) (fun e => HNE.out e.symm), Below.heap_alloc w1 o b hlt]
                 exact HBK.out
               have d1 : w2.cell? ⟨b, 1, none⟩ = some (.slice A l.length cp) := by rw [Lib.cell_of_heap hb2]; rfl
               have f1 : w2.frozen? ⟨b, 1, none⟩ = false := Lib.frozen_of_heap hb2 1
               obtain ⟨w3, hw3⟩ : ∃ w3, w3 = w2.setCell ⟨b, 1, none⟩ (.slice ao (l.length + (runeL r).length) cap) := ⟨_, rfl⟩
               have g1 : (w2.setCell ⟨b, 1, none⟩ (.slice ao (l.length + (runeL r).length) cap)).cell? ⟨b, 1, none⟩ = some (.slice ao (l.length + (runeL r).length) cap) := World.cell?_setCell_same _ _ _ d1
               have HKM := hide (HK1.out.trans ((KM.alloc w1 o).trans (KM.own (HOWN.out.alloc o) hg)))
               have HO2 := hide ho
               have HG2 : Hid (Below B w w2) := hide ((HB1.out.alloc (by omega) o).grown hg (Nat.le_trans (by omega) ((Below.refl 0 w1).alloc (Nat.zero_le _) o).size) (fun k hk => (HOWN.out.lt k hk).1))
               have HB2 := hide hb2
               clear ho hg hb2 e1 e2 hw3)
  go_ret2
  refine ⟨⟨_, rfl⟩, ⟨.inr ?_, (HBL.out.trans HG2.out).setCell (p := ⟨b, 1, none⟩) hB _, ?_⟩, HKM.out.trans (KM.set HB2.out _ _)⟩
  · refine Lib.BuilderAt.put (T := 78) (e := 5) hB HB2.out (bs' := cellsOf (l ++ runeL r)) ?_ (by decide)
    have ho := HO2.out
    have e1 : cellsOf (l ++ runeL r) = cellsOf l ++ cellsOf (runeL r) := by rw [cellsOf, List.map_append]; rfl
    rw [e1, List.length_append, cellsOf_length, cellsOf_length]
    exact ho
  · have := HG2.out.size
    simp [World.setCell]
    omega
def EnvE (w:World):Prop:=Tab w /\ Lib.Utf8Tabs 4 5 w /\ ∃ ev,w.cell? ⟨1,0,none⟩ = some ev /\ (ev = .nilIface \/ ∃ te pe,ev = .iface te pe)
theorem EnvE.kept {w w':World} (h:EnvE w) (hb:Below w.heap.size w w'):EnvE w':=by
 obtain ⟨h1,h2,ev,h3,h4⟩:=h;exact ⟨h1.below hb h1.lt,tabs_kept h2 hb,ev,(hb.cell (p:=⟨1,0,none⟩) (World.block_lt_of_cell? _ _ h3)).trans h3,h4⟩
def SignOK (c:Int):Prop:=0 <= c /\ c <= 1114111
theorem putN_ok {f:List UInt8 -> Option Int} {k:List UInt8} {c:Int} (hf:∀ l x,f l = some x -> SignOK x) (hc:SignOK c):∀ l x,putN f k c l = some x -> SignOK x:=by
 intro l x h;unfold putN at h;split at h
 ·injection h with h;rw [<- h];exact hc
 ·exact hf l x h
theorem nameN_ok:∀ l x,nameN l = some x -> SignOK x:=by
 unfold nameN
 repeat (refine putN_ok ?_ (by unfold SignOK;decide))
 intro l x h;cases h
theorem signN_ok (n:Nat):SignOK (signN n):=by
 unfold signN SignOK;split
 ·decide
 ·split
  ·have:=winR_range (UInt8.ofNat n);omega
  ·omega
theorem numAt_ok {b m:Nat} {l:List UInt8}:∀ x,numAt b m l = some x -> SignOK x:=by
 intro x h;unfold numAt at h;split at h
 ·cases h
 ·split at h
  ·cases h
  ·injection h with h;rw [<- h];exact signN_ok _
theorem sgn_ok {l:List UInt8}:∀ x,sgn l = some x -> SignOK x:=by
 intro x h;unfold sgn byN at h;split at h
 ·split at h <;> exact numAt_ok x h
 ·exact nameN_ok _ x h
theorem refN_ok (l:List UInt8):SignOK (refN l).1 /\ (refN l).2 <= l.length:=by
 unfold refN;split
 ·rename_i x h1 h2;refine ⟨sgn_ok x h1,?_⟩;rcases cut_case 59 (l.take 9) with ⟨h3,h4,_⟩ | ⟨a,r,h3,_,h4,_⟩
  ·have:hasC 59 (l.take 9) = false:=by unfold hasC;simpa using h3
   rw [this] at h2;cases h2
  ·have:=congrArg List.length h3;rw [List.length_append,List.length_cons,List.length_take] at this;rw [h4];show a.length + 1 <= _
   omega
 ·exact ⟨by unfold SignOK;decide,Nat.zero_le _⟩
def decE (l:List UInt8):List UInt8 :=
  if h:hasC 38 l = true then
    beforeC 38 l ++ (if 0 < (refN (afterC 38 l)).2 then runeL (refN (afterC 38 l)).1 ++ decE ((afterC 38 l).drop (refN (afterC 38 l)).2) else 38 :: decE (afterC 38 l))
  else l
termination_by l.length
decreasing_by
  all_goals
    rcases cut_case 38 l with ⟨h3,_⟩ | ⟨a,r,h3,_,h4,h5⟩
    · exact absurd h (by unfold hasC;simpa using h3)
    · have:=congrArg List.length h3
      rw [List.length_append,List.length_cons] at this
      rw [h5]
      first | (rw [List.length_drop];omega) | omega
theorem decE_no {l:List UInt8} (h:hasC 38 l = false):decE l = l:=by rw [decE,dif_neg (by rw [h];decide)]
theorem decE_yes {l:List UInt8} (h:hasC 38 l = true):decE l = beforeC 38 l ++ (if 0 < (refN (afterC 38 l)).2 then runeL (refN (afterC 38 l)).1 ++ decE ((afterC 38 l).drop (refN (afterC 38 l)).2) else 38 :: decE (afterC 38 l)):=by rw [decE,dif_pos h]
theorem has_cut {c:UInt8} {l:List UInt8} (h:hasC c l = true):l.length = (beforeC c l).length + 1 + (afterC c l).length:=by
 rcases cut_case c l with ⟨h3,_⟩ | ⟨a,r,h3,_,h4,h5⟩
 ·exact absurd h (by unfold hasC;simpa using h3)
 ·have:=congrArg List.length h3;rw [List.length_append,List.length_cons] at this;rw [h4,h5];omega
theorem index_has (c:UInt8) (l:List UInt8):decide (0 <= Lib.indexByte l c) = hasC c l:=by
 rcases index_cut c l with ⟨h1,h2,_⟩ | ⟨o,h1,_,h2,_⟩
 ·rw [h1];have:hasC c l = false:=by unfold hasC;simpa using h2
  rw [this];rfl
 ·rw [h1];have:hasC c l = true:=by unfold hasC;simpa using h2
  rw [this];exact decide_eq_true (by omega)
theorem entDecode_any (s:ByteArray) (w:World) (hs:s.size <= 16777216) (hE:EnvE w) :
  Calls Tryz.prog 82 #[.string s] w fun e w'=>e = .returned (.string (str (decE s.data.toList))) /\ Below w.heap.size w w':=by
 have HC:=hide (Tryz.strings_Contains_one s 38 w);rw [index_has] at HC;cases hh:hasC 38 s.data.toList with
 | false =>
  have HR:Hid (decE s.data.toList = s.data.toList):=hide (decE_no hh);rw [hh] at HC;clear hh hE;go_enter Tryz.func82,Tryz.ntmps82;go_wp2_with (go_at_call 116;refine HC.out.mono ?_;rintro e w1 ⟨rfl,hw⟩;obtain rfl:=hw.symm);go_ret;exact ⟨by rw [HR.out,str_of];rfl,Below.refl _ _⟩
 | true =>
  rw [hh] at HC;have HE:=hide hE;have KB:Hid (Below w.heap.size w (w.alloc (.cells #[.pointer none,.slice none 0 0] 78))):=hide ((Below.refl _ _).alloc (Nat.le_refl _) _);have HBD:=hide (Bld.new (B:=w.heap.size) (W0:=w) (Below.refl _ w) (Nat.le_refl _));clear hh hE;go_enter Tryz.func82,Tryz.ntmps82
  go_wp2_with (first
   |(go_at_call 116;refine HC.out.mono ?_;rintro e w1 ⟨rfl,hw⟩;obtain rfl:=hw.symm)
   |(go_at_call 117;refine (signs_any _).mono ?_;rintro e w2 ⟨rfl,hm2,hb2⟩;have HM2:=hide hm2;have HB2:=hide hb2;clear hm2 hb2))
  have HM2':Hid (SMapN w2 (w.heap.size + 1) 16 nameN):=hide (by have:=HM2.out;rwa [World.size_alloc] at this);go_loopw [0] (fun sv wr=>∃ (S:ByteArray) (acc:List UInt8),sv = .string S /\ Hid (acc.length + 4 * S.size <= 4 * s.size) /\ Hid (Bld w.heap.size w.heap.size acc w wr) /\ Hid (SMapN wr (w.heap.size + 1) 16 nameN) /\ Hid (acc ++ decE S.data.toList = decE s.data.toList)) (fun sv _=>szOfS sv)
  case atStart=>exact ⟨s,[],rfl,hide (by simp),hide (HBD.out.kept HB2.out),HM2',hide rfl⟩
  case round =>
   obtain ⟨S,acc,rfl,HL,HB,HM,HG⟩:=hrel;have hSz:S.size <= s.size:=by have:=HL.out;omega
   have hcut:=fun w1=>strCut_any S 38 w1 (by omega)
   simp only [cutV] at hcut;obtain ⟨A,hA⟩:∃ A,A = str (beforeC 38 S.data.toList):=⟨_,rfl⟩
   obtain ⟨R,hR⟩:∃ R,R = str (afterC 38 S.data.toList):=⟨_,rfl⟩
   rw [<- hA,<- hR] at hcut;have hAl:A.data.toList = beforeC 38 S.data.toList:=by rw [hA,str_toList]
   have hRl:R.data.toList = afterC 38 S.data.toList:=by rw [hR,str_toList]
   have hAs:A.size <= S.size:=by rw [<- toList_length,hAl,<- toList_length S];exact (List.takeWhile_sublist _).length_le
   have HL1:Hid (acc.length + A.size <= 140737488355328):=hide (by have:=HL.out;omega);have tok1:True:=trivial;cases hc:hasC 38 S.data.toList with
   | false =>
    rw [hc] at hcut;have HCUT:=hide hcut
    have HR:Hid (decE s.data.toList = acc ++ A.data.toList):=hide (by
     rw [<- HG.out,decE_no hc,hAl];rcases cut_case 38 S.data.toList with ⟨_,h4,_⟩ | ⟨a,r,h3,_⟩
     ·rw [h4]
     ·exact absurd hc (by unfold hasC;rw [h3];simp))
    clear hcut hc hA hR hAl hRl hAs hSz
    go_wp2_with (first
     |(go_at_call 113;with_reducible refine (HCUT.out _).mono ?_;rintro e w3 ⟨rfl,hb3⟩;have HB3:=hide (HB.out.kept hb3);have HM3:=hide (HM.out.kept hb3);clear hb3)
     |(go_at_call 64;have _t:=tok1;refine (writeStringM_any _ _ acc A w _ HB3.out HL1.out).mono ?_;rintro e w4 ⟨rfl,hb4,hk4⟩;have HB4:=hide hb4;have HM4:=hide (HM3.out.km hk4);clear hb4 hk4 tok1)
     |(go_at_call 57;refine (HB4.out.string).mono ?_;rintro e w5 ⟨rfl,hb5⟩;have HB5:=hide hb5;clear hb5))
    go_ret;exact ⟨by rw [HR.out];rfl,HB5.out⟩
   | true =>
    rw [hc] at hcut;have HCUT:=hide hcut;have hlen:=has_cut hc;rw [<- hAl,<- hRl,toList_length,toList_length,toList_length] at hlen;have hdec:=decE_yes hc;rw [<- hAl,<- hRl] at hdec;have hG:=HG.out;rw [hdec] at hG;obtain ⟨hx,hnl⟩:=refN_ok R.data.toList;rw [toList_length] at hnl;have href:=fun w1 (hm:SMapN w1 (w.heap.size + 1) 16 nameN) (he:EnvE w1)=>reference_any R (w.heap.size + 1) he.2.2.choose w1 (by omega) hm he.1 he.2.1 he.2.2.choose_spec.1 he.2.2.choose_spec.2
    obtain ⟨⟨x,n⟩,hr⟩:∃ o,refN R.data.toList = o:=⟨_,rfl⟩
    rw [hr] at hx hnl href hG;simp only [refV] at href;simp only [] at hx hnl hG;have HREF:=hide href;have HX:=hide hx;have hLL:=HL.out
    by_cases hn:0 < n
    ·have t1:decide ((n:Int) > 0) = true:=decide_eq_true (by omega);have t2:decide (0 < n) = true:=decide_eq_true hn;have k1:(0:Int) <= n:=by omega
     have k2:(n:Int) <= R.size:=by omega
     rw [if_pos hn] at hG;have hrl:=(runeL_length x).2.1;have hsz:(R.extract n R.size).size = R.size - n:=by rw [ByteArray.size_extract];omega
     have HL2:Hid ((acc ++ A.data.toList).length + 4 <= 140737488355328):=hide (by rw [List.length_append,toList_length];omega);have HLN:Hid (((acc ++ A.data.toList) ++ runeL x).length + 4 * (R.extract n R.size).size <= 4 * s.size):=hide (by rw [List.length_append,List.length_append,toList_length,hsz];omega);have HGN:Hid (((acc ++ A.data.toList) ++ runeL x) ++ decE (R.extract n R.size).data.toList = decE s.data.toList):=hide (by rw [extract_end,<- hG];simp);have HLT:Hid ((R.extract n R.size).size < S.size):=hide (by rw [hsz];omega);clear hcut hc hA hR hAl hRl hAs hlen hdec hG hx hnl href hr hLL hn hrl hsz hSz
     go_wp2_with (first
      |(go_at_call 113;with_reducible refine (HCUT.out _).mono ?_;rintro e w3 ⟨rfl,hb3⟩;have HB3:=hide (HB.out.kept hb3);have HM3:=hide (HM.out.kept hb3);clear hb3)
      |(go_at_call 64;have _t:=tok1;refine (writeStringM_any _ _ acc A w _ HB3.out HL1.out).mono ?_;rintro e w4 ⟨rfl,hb4,hk4⟩;have HB4:=hide hb4;have HM4:=hide (HM3.out.km hk4);clear hb4 hk4 tok1)
      |(go_at_call 118;refine (HREF.out _ HM4.out (HE.out.kept HB4.out.2.1)).mono ?_;rintro e w5 ⟨rfl,hb5⟩;have HB5:=hide (HB4.out.kept hb5);have HM5:=hide (HM4.out.kept hb5);clear hb5)
      |(go_at_call 119;refine (writeRuneM_any _ _ _ x HX.out.1 HX.out.2 w _ HB5.out HL2.out).mono ?_;rintro e w6 ⟨⟨m6,rfl⟩,hb6,hk6⟩;have HB6:=hide hb6;have HM6:=hide (HM5.out.km hk6);clear hb6 hk6))
     go_roundw
     case rel=>exact ⟨_,_,rfl,HLN,HB6,HM6,HGN⟩
     case measure=>exact HLT.out
    ·have hn0:n = 0:=by omega
     have t1:decide ((n:Int) > 0) = false:=decide_eq_false (by omega);have t2:decide (0 < n) = false:=decide_eq_false hn;rw [if_neg hn] at hG;have tok2:True:=trivial;have HL2:Hid ((acc ++ A.data.toList).length + (⟨#[38]⟩:ByteArray).size <= 140737488355328):=hide (by rw [List.length_append,toList_length,show (⟨#[38]⟩:ByteArray).size = 1 from rfl];omega);have HLN:Hid (((acc ++ A.data.toList) ++ (⟨#[38]⟩:ByteArray).data.toList).length + 4 * R.size <= 4 * s.size):=hide (by rw [List.length_append,List.length_append,toList_length,toList_length,show (⟨#[38]⟩:ByteArray).size = 1 from rfl];omega);have HGN:Hid (((acc ++ A.data.toList) ++ (⟨#[38]⟩:ByteArray).data.toList) ++ decE R.data.toList = decE s.data.toList):=hide (by rw [<- hG,show (⟨#[38]⟩:ByteArray).data.toList = [38] from rfl];simp);have HLT:Hid (R.size < S.size):=hide (by omega);clear hcut hc hA hR hAl hRl hAs hlen hdec hG hx hnl href hr hLL hn hn0 hSz
     go_wp2_with (first
      |(go_at_call 113;with_reducible refine (HCUT.out _).mono ?_;rintro e w3 ⟨rfl,hb3⟩;have HB3:=hide (HB.out.kept hb3);have HM3:=hide (HM.out.kept hb3);clear hb3)
      |(go_at_call 64;have _t:=tok1;refine (writeStringM_any _ _ acc A w _ HB3.out HL1.out).mono ?_;rintro e w4 ⟨rfl,hb4,hk4⟩;have HB4:=hide hb4;have HM4:=hide (HM3.out.km hk4);clear hb4 hk4 tok1)
      |(go_at_call 118;refine (HREF.out _ HM4.out (HE.out.kept HB4.out.2.1)).mono ?_;rintro e w5 ⟨rfl,hb5⟩;have HB5:=hide (HB4.out.kept hb5);have HM5:=hide (HM4.out.kept hb5);clear hb5)
      |(go_at_call 64;have _t:=tok2;refine (writeStringM_any _ _ _ ⟨#[38]⟩ w _ HB5.out HL2.out).mono ?_;rintro e w6 ⟨rfl,hb6,hk6⟩;have HB6:=hide hb6;have HM6:=hide (HM5.out.km hk6);clear hb6 hk6 tok2))
     go_roundw
     case rel=>exact ⟨_,_,rfl,HLN,HB6,HM6,HGN⟩
     case measure=>exact HLT.out
def quT:List UInt8:=[38,113,117,111,116,59]
def escQ (q:Bool):List UInt8 -> List UInt8
  | []=>[]
  | c :: r=>if q = true /\ c = 34 then quT ++ escQ q r else match lookL (c :: r) with
    | some (t,n)=>t ++ escQ q (r.drop (n - 1))
    | none=>c :: escQ q r
termination_by l=>l.length
decreasing_by all_goals simp;try omega
theorem look_forms {l t:List UInt8} {n:Nat} (h:lookL l = some (t,n)):∃ r,(l = 38 :: r /\ t = ampT /\ n = 1) \/ (l = 60 :: r /\ t = ltT /\ n = 1) \/ (l = 62 :: r /\ t = gtT /\ n = 1) \/ (l = 194 :: 160 :: r /\ t = nbT /\ n = 2):=by
 unfold lookL at h
 split at h <;> first
  |(rename_i r;injection h with h;injection h with h1 h2;subst h1 h2;exact ⟨r,by simp⟩)
  |cases h
theorem escQ_nil (q:Bool):escQ q [] = []:=by rw [escQ]
theorem escQ_quote (r:List UInt8):escQ true (34 :: r) = quT ++ escQ true r:=by rw [escQ,if_pos ⟨rfl,rfl⟩]
theorem escQ_some {q:Bool} {l t:List UInt8} {n:Nat} (h:lookL l = some (t,n)):escQ q l = t ++ escQ q (l.drop n):=by
 obtain ⟨r,⟨rfl,rfl,rfl⟩ | ⟨rfl,rfl,rfl⟩ | ⟨rfl,rfl,rfl⟩ | ⟨rfl,rfl,rfl⟩⟩:=look_forms h
 all_goals
  rw [escQ,if_neg (by intro e;exact absurd e.2 (by decide)),h];rfl
theorem escQ_none {q:Bool} {c:UInt8} {r:List UInt8} (h:lookL (c :: r) = none) (hq:¬(q = true /\ c = 34)):escQ q (c :: r) = c :: escQ q r:=by
 rw [escQ,if_neg hq,h]
theorem esc_ind (q:Bool) {P:List UInt8 -> Prop} (h0:P []) (hq:q = true -> ∀ r,P r -> P (34 :: r)) (hs:∀ l t n,lookL l = some (t,n) -> P (l.drop n) -> P l) (hn:∀ c r,lookL (c :: r) = none -> ¬(q = true /\ c = 34) -> P r -> P (c :: r)):∀ (k:Nat) (l:List UInt8),l.length <= k -> P l
 | _,[],_=>h0
 | 0,c :: r,h=>absurd h (by simp)
 | k + 1,c :: r,h=>by
  by_cases e:q = true /\ c = 34
  ·obtain ⟨e1,rfl⟩:=e;exact hq e1 r (esc_ind q h0 hq hs hn k r (by simpa using h))
  ·cases hl:lookL (c :: r) with
   | none=>exact hn c r hl e (esc_ind q h0 hq hs hn k r (by simpa using h))
   | some p =>
    obtain ⟨t,n⟩:=p;have hp:=lookL_some hl;exact hs _ t n hl (esc_ind q h0 hq hs hn k _ (by rw [List.length_drop];simp only [List.length_cons] at h ⊢;omega))
theorem escG_Q (l:List UInt8):escG l = escQ false l:=by
 refine esc_ind false (P:=fun l=>escG l = escQ false l) ?_ ?_ ?_ ?_ l.length l (Nat.le_refl _)
 ·rw [escQ_nil,escG]
 ·intro h;cases h
 ·intro l t n h ih;rw [escQ_some h,escG_some h,ih]
 ·intro c r h hq ih;rw [escQ_none h hq,escG_none h,ih]
theorem before_app {c:UInt8} {k:List UInt8} (hk:c ∉ k) (X:List UInt8):beforeC c (k ++ c :: X) = k /\ afterC c (k ++ c :: X) = X /\ hasC c (k ++ c :: X) = true:=by
 refine ⟨?_,?_,by simp [hasC]⟩
 ·induction k with
  | nil=>simp [beforeC]
  | cons a k ih =>
   have h1:(a != c) = true:=by rw [bne_iff_ne];rintro rfl;exact hk (by simp)
   have h2:=ih (fun h=>hk (List.mem_cons_of_mem _ h));unfold beforeC at h2 ⊢;rw [List.cons_append,List.takeWhile_cons,h1];simp only [if_true];rw [h2]
 ·induction k with
  | nil=>simp [afterC]
  | cons a k ih =>
   have h1:(a != c) = true:=by rw [bne_iff_ne];rintro rfl;exact hk (by simp)
   have h2:=ih (fun h=>hk (List.mem_cons_of_mem _ h));unfold afterC at h2 ⊢;rw [List.cons_append,List.dropWhile_cons,h1];simp only [if_true];exact h2
theorem cons_off {c:UInt8} (hc:c ≠ 38) (r:List UInt8):beforeC 38 (c :: r) = c :: beforeC 38 r /\ afterC 38 (c :: r) = afterC 38 r /\ hasC 38 (c :: r) = hasC 38 r:=by
 have h1:(c != 38) = true:=by rw [bne_iff_ne];exact hc
 refine ⟨?_,?_,?_⟩
 ·unfold beforeC;rw [List.takeWhile_cons,h1];rfl
 ·unfold afterC;rw [List.dropWhile_cons,h1];rfl
 ·unfold hasC
  congr 1
  rw [List.mem_cons,eq_iff_iff];exact ⟨fun h=>h.elim (fun e=>absurd e.symm hc) id,.inr⟩
theorem decE_nil:decE [] = []:=decE_no rfl
theorem decE_cons {c:UInt8} (hc:c ≠ 38) (r:List UInt8):decE (c :: r) = c :: decE r:=by
 obtain ⟨e1,e2,e3⟩:=cons_off hc r;cases h:hasC 38 r with
 | false=>rw [decE_no h,decE_no (e3.trans h)]
 | true=>rw [decE_yes h,decE_yes (e3.trans h),e1,e2,List.cons_append]
theorem decE_amp (r:List UInt8):decE (38 :: r) = if 0 < (refN r).2 then runeL (refN r).1 ++ decE (r.drop (refN r).2) else 38 :: decE r:=by
 have e1:beforeC 38 (38 :: r) = []:=by simp [beforeC]
 have e2:afterC 38 (38 :: r) = r:=by simp [afterC]
 rw [decE_yes (by simp [hasC]),e1,e2,List.nil_append]
theorem refN_at {k:List UInt8} (hk:(59:UInt8) ∉ k) (hl:k.length <= 8) (X:List UInt8):refN (k ++ 59 :: X) = match sgn k with | some x=>(x,k.length + 1) | none=>(0,0):=by
 have e:(k ++ 59 :: X).take 9 = k ++ 59 :: X.take (8 - k.length):=by
  rw [List.take_append,List.take_of_length_le (by omega)];obtain ⟨m,hm⟩:∃ m,9 - k.length = m + 1:=⟨8 - k.length,by omega⟩
  rw [hm,List.take_succ_cons,show m = 8 - k.length by omega]
 obtain ⟨e1,e2,e3⟩:=before_app hk (X.take (8 - k.length));unfold refN;rw [e,e1,e3];cases sgn k <;> rfl
theorem name_one (c:UInt8):nameN [c] = none:=u8_all (p:=fun c=>nameN [c] = none) (by decide +kernel) c
theorem sgn_two {k:List UInt8} {x:Int} (h:sgn k = some x):2 <= k.length:=by
 match k,h with
 | [],h=>rw [show sgn [] = none by decide] at h;cases h
 | [c],h =>
  by_cases hc:c = 35
  ·subst hc;rw [show sgn [35] = none by decide] at h;cases h
  ·unfold sgn at h;split at h
   ·rename_i hp;have:35 = c:=by simpa [Lib.hasPrefix] using hp
    exact absurd this.symm hc
   ·rw [name_one] at h;cases h
 | _ :: _ :: _,_=>simp
theorem refN_three {l:List UInt8} (h:0 < (refN l).2):3 <= (refN l).2:=by
 unfold refN at h ⊢;split
 ·rename_i x h1 h2;have:=sgn_two h1;show 3 <= _ + 1
  omega
 ·rename_i hno;split at h
  ·rename_i x h1 h2;exact absurd h2 (by intro h2;exact hno x h1 h2)
  ·exact absurd h (by decide)
theorem decE_len:∀ (k:Nat) (l:List UInt8),l.length <= k -> (decE l).length <= l.length
 | _,[],_=>by rw [decE_nil];exact Nat.le_refl _
 | 0,c :: r,h=>absurd h (by simp)
 | k + 1,c :: r,h=>by
  by_cases hc:c = 38
  ·subst hc;rw [decE_amp];split
   ·rename_i hn;have h3:=refN_three hn;have hle:=(refN_ok r).2;have hr:=(runeL_length (refN r).1).2.1;have:=decE_len k (r.drop (refN r).2) (by rw [List.length_drop];simp only [List.length_cons] at h;omega);rw [List.length_drop] at this;rw [List.length_append,List.length_cons];omega
   ·have:=decE_len k r (by simpa using h);simp only [List.length_cons];omega
  ·have:=decE_len k r (by simpa using h);rw [decE_cons hc];simp only [List.length_cons];omega
theorem esc_len (q:Bool) (l:List UInt8):(escQ q l).length <= 6 * l.length:=by
 refine esc_ind q (P:=fun l=>(escQ q l).length <= 6 * l.length) ?_ ?_ ?_ ?_ l.length l (Nat.le_refl _)
 ·rw [escQ_nil];exact Nat.le_refl _
 ·rintro rfl r ih;rw [escQ_quote,List.length_append,show quT.length = 6 from rfl,List.length_cons];omega
 ·intro l t n h ih;have hp:=lookL_some h;rw [List.length_drop] at ih;rw [escQ_some h,List.length_append];omega
 ·intro c r h hq ih;rw [escQ_none h hq,List.length_cons,List.length_cons];omega
theorem repK_one (c:UInt8) (new:List UInt8):∀ l:List UInt8,Lib.replaceK [c] new (Lib.count l [c]) l = l.flatMap (fun x=>if x = c then new else [x])
 | []=>by
  rw [Lib.count_one];rfl
 | b :: r=>by
  have ih:=repK_one c new r
  by_cases hb:b = c
  ·subst hb;rw [Lib.count_cons_eq,Nat.add_comm,Lib.replaceK_hit [b] new _ _ 0 (by rw [Lib.index_one];simp [Lib.indexByte])];rw [List.flatMap_cons,if_pos rfl];show [] ++ new ++ Lib.replaceK [b] new (Lib.count r [b]) r = _
   rw [ih,List.nil_append]
  ·rw [Lib.count_cons_ne b c r hb,List.flatMap_cons,if_neg hb,<- ih];cases hn:Lib.count r [c] with
   | zero=>rfl
   | succ k =>
    obtain ⟨i,hi⟩:=Lib.index_of_count (s:=r) (old:=[c]) (by rw [hn];exact Nat.succ_pos _)
    have hi2:Lib.index (b :: r) [c] = ((i + 1:Nat):Int):=by
     rw [Lib.index_one] at hi ⊢;have h1:(b == c) = false:=by simp [hb]
     have h2:((i:Int) == -1) = false:=by rw [beq_eq_false_iff_ne];omega
     simp [Lib.indexByte,h1,hi,h2]
    rw [Lib.replaceK_hit [c] new k _ _ hi2,Lib.replaceK_hit [c] new k _ _ hi];simp [Nat.add_right_comm]
theorem repAll_one (c:UInt8) (new:List UInt8) (hne:([c] == new) = false) (l:List UInt8):Lib.replaceAll l [c] new = l.flatMap (fun x=>if x = c then new else [x]):=by
 unfold Lib.replaceAll Lib.replace Lib.replaceNum;rw [hne,if_neg (by decide),if_pos (.inl (by decide)),repK_one]
theorem escQ_value (l:List UInt8):escQ true l = Lib.replaceAll (escQ false l) [34] quT:=by
 rw [repAll_one 34 quT (by decide)];refine esc_ind true (P:=fun l=>escQ true l = (escQ false l).flatMap (fun x=>if x = 34 then quT else [x])) ?_ ?_ ?_ ?_ l.length l (Nat.le_refl _)
 ·rw [escQ_nil,escQ_nil];rfl
 ·intro _ r ih;rw [escQ_quote,escQ_none (q:=false) (c:=34) (r:=r) rfl (by intro e;cases e.1),List.flatMap_cons,if_pos rfl,ih]
 ·intro l t n h ih;rw [escQ_some h,escQ_some h,List.flatMap_append,<- ih]
  congr 1
  obtain ⟨r,⟨rfl,rfl,rfl⟩ | ⟨rfl,rfl,rfl⟩ | ⟨rfl,rfl,rfl⟩ | ⟨rfl,rfl,rfl⟩⟩:=look_forms h <;> decide
 ·intro c r h hq ih;rw [escQ_none h hq,escQ_none h (by intro e;cases e.1),List.flatMap_cons,if_neg (by intro e;exact hq ⟨rfl,e⟩),<- ih];rfl
theorem race_off (w:World):(callFunc 251 #[]).run Tryz.prog w = .ok (.value (.tuple #[])) w:=run_call_mark0 Tryz.func251 (by kernel_rfl) (by kernel_rfl) (by kernel_rfl) .disable (by kernel_rfl) w
theorem race_on (w:World):(callFunc 253 #[]).run Tryz.prog w = .ok (.value (.tuple #[])) w:=run_call_mark0 Tryz.func253 (by kernel_rfl) (by kernel_rfl) (by kernel_rfl) .enable (by kernel_rfl) w
theorem race_got (a:Addr) (w:World):(callFunc 254 #[.pointer (some a)]).run Tryz.prog w = .ok (.value (.tuple #[])) w:=run_call_marked Tryz.func254 (by kernel_rfl) (by kernel_rfl) (by kernel_rfl) .acquire (by kernel_rfl) a w
theorem race_let (a:Addr) (w:World):(callFunc 256 #[.pointer (some a)]).run Tryz.prog w = .ok (.value (.tuple #[])) w:=run_call_marked Tryz.func256 (by kernel_rfl) (by kernel_rfl) (by kernel_rfl) .releaseMerge (by kernel_rfl) a w
theorem done_set (a:Addr) (x:Value) (u:FrameMode) (w:World) (hc:w.cell? a = some x) (hz:w.frozen? a = false) :
  CallsD Tryz.prog 213 #[.pointer (some a),.bool true] u w fun e u' w'=>u' = u /\ (e = .returned (.tuple #[]) /\ w' = w.drew.setCell a (.int .u32 1)):=by
 have hc':w.drew.cell? a = some x:=by go_simp
 have hz':w.drew.frozen? a = false:=by go_simp
 have hst:=run_call_store (P:=Tryz.prog) Tryz.func240 (by kernel_rfl) (by kernel_rfl) (by kernel_rfl) (by kernel_rfl) (k:=.u32) (y:=1) hc' hz';go_enter_d Tryz.func213,Tryz.ntmps213;go_wp2;go_region_calls
 all_goals (go_end0;exact ⟨rfl,rfl⟩)
theorem lock_let (a:Addr) (u:FrameMode) (w:World) (hc:w.cell? a = some (.int .i32 1)) (hz:w.frozen? a = false) :
  CallsD Tryz.prog 212 #[.pointer (some a)] u w fun e u' w'=>u' = u /\ (e = .returned (.tuple #[]) /\ w' = w.setCell a (.int .i32 0)):=by
 have hd:=race_off;have he:=race_on;have hr:=race_let;have hadd:=run_call_add (P:=Tryz.prog) Tryz.func257 (by kernel_rfl) (by kernel_rfl) (by kernel_rfl) .i32 (by kernel_rfl) (y:=-1) (s:=0) hc hz (by simp [go_sem];rfl);have hcv:=run_convert_to_unsafe (P:=Tryz.prog) (src:=270) (dst:=153) Tryz.underlying270 Tryz.underlying153 (by kernel_rfl) hc;go_enter_d Tryz.func212,Tryz.ntmps212;go_wp2;go_end0;go_wp2;go_end0;exact ⟨rfl,rfl⟩
theorem lock_got (a:Addr) (w:World) (hc:w.cell? a = some (.int .i32 0)) (hz:w.frozen? a = false) :
  Calls Tryz.prog 211 #[.pointer (some a)] w fun e w'=>e = .returned (.tuple #[]) /\ w' = w.setCell a (.int .i32 1):=by
 have hd:=race_off;have he:=race_on;have ha:=race_got;have hcas:=run_call_cas_hit (P:=Tryz.prog) Tryz.func252 (by kernel_rfl) (by kernel_rfl) (by kernel_rfl) .i32 (by kernel_rfl) (y:=1) hc hz;have hc':(w.setCell a (.int .i32 1)).cell? a = some (.int .i32 1):=World.cell?_setCell_same w a _ hc;have hcv:=run_convert_to_unsafe (P:=Tryz.prog) (src:=270) (dst:=153) Tryz.underlying270 Tryz.underlying153 (by kernel_rfl) hc';go_enter Tryz.func211,Tryz.ntmps211;go_wp2
 first | go_end0 | (simp only [Exit.inBlock,Exit.then];refine bodyPost_ret (results_none rfl _ _ _) rfl ?_) | refine bodyPost_ret (results_none rfl _ _ _) rfl ?_
 go_wp2;go_end0;exact ⟨rfl,rfl⟩
theorem done_get (a:Addr) (w:World) (h0:w.cell? a = some (.int .u32 0)) :
  Calls Tryz.prog 182 #[.pointer (some a)] w fun e w'=>e = .returned (.bool false) /\ w = w':=by
 have hl:=run_call_load (P:=Tryz.prog) Tryz.func210 (by kernel_rfl) (by kernel_rfl) (by kernel_rfl) .u32 (by kernel_rfl) h0;go_enter Tryz.func182,Tryz.ntmps182;go_wp2;go_ret;exact ⟨rfl,rfl⟩
theorem slow_build (b:Nat) (w:World) (Q:World -> Prop)
  (h0:w.cell? ⟨b,0,none⟩ = some (.int .u32 0)) (h1:w.cell? ⟨b,1,none⟩ = some (.int .i32 0)) (f0:w.frozen? ⟨b,0,none⟩ = false) (f1:w.frozen? ⟨b,1,none⟩ = false)
  (hC:Calls Tryz.prog 164 #[.pointer (some ⟨b,0,none⟩)] (w.setCell ⟨b,1,none⟩ (.int .i32 1)) fun e w'=>e = .returned (.tuple #[]) /\ Q w')
  (hQ:∀ w',Q w' -> w'.cell? ⟨b,0,none⟩ = some (.int .u32 0) /\ w'.cell? ⟨b,1,none⟩ = some (.int .i32 1) /\ w'.frozen? ⟨b,0,none⟩ = false /\ w'.frozen? ⟨b,1,none⟩ = false) :
  Calls Tryz.prog 183 #[.pointer (some ⟨b,0,none⟩),.func (.func 164) #[.pointer (some ⟨b,0,none⟩)] #[]] w fun e w'=>e = .returned (.tuple #[]) /\
   ∃ w1,Q w1 /\ w' = (w1.drew.setCell ⟨b,0,none⟩ (.int .u32 1)).setCell ⟨b,1,none⟩ (.int .i32 0):=by
 have hd1:(w.setCell ⟨b,1,none⟩ (.int .i32 1)).cell? ⟨b,0,none⟩ = some (.int .u32 0):=(World.cell?_setCell_other _ ⟨b,1,none⟩ ⟨b,0,none⟩ _ (by simp)).trans h0;have hnot:∀ (x:Bool) (w:World),(Op.unary .not (.bool x)).run Tryz.prog w = .ok (.bool (!x)) w:=fun _ _=>rfl
 go_enter_defers Tryz.func183,Tryz.ntmps183;go_wp2_with (go_at_call 211;refine (lock_got ⟨b,1,none⟩ _ (by go_simp) (by go_simp)).mono ?_;rintro e w' ⟨rfl,rfl⟩)
 go_wp2_with (first
  |(go_at_call 182;refine (done_get ⟨b,0,none⟩ _ hd1).mono ?_;rintro e w' ⟨rfl,rfl⟩)
  |(go_at_call 164;refine hC.mono ?_;rintro e w2 ⟨rfl,hq⟩))
 refine leaves_cons (f:=213) (args:=#[.pointer (some ⟨b,0,none⟩),.bool true]) (by simp) (by simp [go_sem]) ?_;refine (done_set ⟨b,0,none⟩ (.int .u32 0) .returning _ (hQ _ hq).1 (hQ _ hq).2.2.1).mono ?_;rintro e u' w'' ⟨rfl,rfl,rfl⟩;refine leaves_cons (f:=212) (args:=#[.pointer (some ⟨b,1,none⟩)]) (by simp [settle]) (by simp [go_sem]) ?_;refine (lock_let ⟨b,1,none⟩ _ _ ?_ ?_).mono ?_
 ·refine (World.cell?_setCell_other _ ⟨b,0,none⟩ ⟨b,1,none⟩ _ (by simp)).trans ?_;rw [World.cell?_drew];exact (hQ _ hq).2.1
 ·simp [(hQ _ hq).2.2.2]
 rintro e u' w'' ⟨rfl,rfl,rfl⟩;simp [Leaves,settle,results,Tryz.results183];exact ⟨w2,hq,rfl⟩
theorem once_build (b:Nat) (w:World) (Q:World -> Prop)
  (h0:w.cell? ⟨b,0,none⟩ = some (.int .u32 0)) (h1:w.cell? ⟨b,1,none⟩ = some (.int .i32 0)) (f0:w.frozen? ⟨b,0,none⟩ = false) (f1:w.frozen? ⟨b,1,none⟩ = false)
  (hC:Calls Tryz.prog 164 #[.pointer (some ⟨b,0,none⟩)] (w.setCell ⟨b,1,none⟩ (.int .i32 1)) fun e w'=>e = .returned (.tuple #[]) /\ Q w')
  (hQ:∀ w',Q w' -> w'.cell? ⟨b,0,none⟩ = some (.int .u32 0) /\ w'.cell? ⟨b,1,none⟩ = some (.int .i32 1) /\ w'.frozen? ⟨b,0,none⟩ = false /\ w'.frozen? ⟨b,1,none⟩ = false) :
  Calls Tryz.prog 163 #[.pointer (some ⟨b,0,none⟩),.func (.func 164) #[.pointer (some ⟨b,0,none⟩)] #[]] w fun e w'=>e = .returned (.tuple #[]) /\
   ∃ w1,Q w1 /\ w' = (w1.drew.setCell ⟨b,0,none⟩ (.int .u32 1)).setCell ⟨b,1,none⟩ (.int .i32 0):=by
 have hnot:∀ (x:Bool) (w:World),(Op.unary .not (.bool x)).run Tryz.prog w = .ok (.bool (!x)) w:=fun _ _=>rfl
 go_enter Tryz.func163,Tryz.ntmps163
 go_wp2_with (first
  |(go_at_call 182;refine (done_get ⟨b,0,none⟩ _ h0).mono ?_;rintro e w' ⟨rfl,rfl⟩)
  |(go_at_call 183;refine (slow_build b _ Q h0 h1 f0 f1 hC hQ).mono ?_;rintro e w' ⟨rfl,hq⟩))
 go_end0;exact ⟨rfl,hq⟩
theorem buildE_any (b g c:Nat) (w:World) (ho:w.cell? ⟨b,4,none⟩ = some (.slice (some ⟨g,0,none⟩) 8 c)) (hg:OldNewE g w) :
  Calls Tryz.prog 184 #[.pointer (some ⟨b,0,none⟩)] w fun e w'=>e = .returned (.iface 226 (.pointer (some ⟨w.heap.size,0,none⟩))) /\ TrieX w.heap.size w.heap.size w' /\ Below w.heap.size w w':=by
 have g0:=(hg 0 (by omega)).1;have g1:=(hg 0 (by omega)).2;have g2:=(hg 1 (by omega)).1;have g3:=(hg 1 (by omega)).2;have g4:=(hg 2 (by omega)).1;have g5:=(hg 2 (by omega)).2;have g6:=(hg 3 (by omega)).1;have e0:w.cell? ⟨g,0,none⟩ = some (.string ⟨#[38]⟩):=g0;have e1:w.cell? ⟨g,1,none⟩ = some (.string ⟨#[38,97,109,112,59]⟩):=g1;have e2:w.cell? ⟨g,2,none⟩ = some (.string ⟨#[60]⟩):=g2;have e3:w.cell? ⟨g,3,none⟩ = some (.string ⟨#[38,108,116,59]⟩):=g3;have e4:w.cell? ⟨g,4,none⟩ = some (.string ⟨#[62]⟩):=g4;have e5:w.cell? ⟨g,5,none⟩ = some (.string ⟨#[38,103,116,59]⟩):=g5;have e6:w.cell? ⟨g,6,none⟩ = some (.string ⟨#[194,160]⟩):=g6;have HG:=hide hg;clear g0 g1 g2 g3 g4 g5 g6 hg;go_enter Tryz.func184,Tryz.ntmps184;go_wp2_with fail;go_loop [4,5] (fun a i=>(i = .int .i64 0 /\ a = .bool true) \/ (i = .int .i64 2 /\ a = .bool false) \/ (i = .int .i64 4 /\ a = .bool false) \/ (i = .int .i64 6 /\ a = .bool false)) (fun _ i=>8 - (intOf i).toNat)
 case atStart=>exact .inl ⟨rfl,rfl⟩
 case round =>
  rcases hrel with ⟨rfl,rfl⟩ | ⟨rfl,rfl⟩ | ⟨rfl,rfl⟩ | ⟨rfl,rfl⟩
  ·go_wp2_with fail;exact ⟨.inr (.inl ⟨rfl,rfl⟩),by decide⟩
  ·go_wp2_with fail;exact ⟨.inr (.inr (.inl ⟨rfl,rfl⟩)),by decide⟩
  ·go_wp2_with fail;exact ⟨.inr (.inr (.inr ⟨rfl,rfl⟩)),by decide⟩
  ·go_wp2_with (go_at_call 215;refine (makeGen_any g c _ HG.out).mono ?_;rintro e w1 ⟨rfl,ht,hb⟩;have HT:=hide ht;have HB:=hide hb;clear ht hb);go_ret;exact ⟨rfl,HT.out,HB.out⟩
def BuiltE (W:World) (b:Nat) (w w':World):Prop :=
  TrieX w.heap.size w.heap.size w' /\ Below W.heap.size W w' /\ w.heap.size <= w'.heap.size /\ w'.cell? ⟨b,3,none⟩ = some (.iface 226 (.pointer (some ⟨w.heap.size,0,none⟩))) /\
  w'.cell? ⟨b,0,none⟩ = some (.int .u32 0) /\ w'.cell? ⟨b,1,none⟩ = some (.int .i32 1) /\ w'.frozen? ⟨b,0,none⟩ = false /\ w'.frozen? ⟨b,1,none⟩ = false
theorem buildOnceE_any (b g c:Nat) (W w:World) (hW:Below W.heap.size W w) (hWb:W.heap.size <= b) (h0:w.cell? ⟨b,0,none⟩ = some (.int .u32 0)) (h1:w.cell? ⟨b,1,none⟩ = some (.int .i32 1)) (h3:w.cell? ⟨b,3,none⟩ = some .nilIface)
  (hf:∀ i:Nat,w.frozen? ⟨b,i,none⟩ = false) (h4:w.cell? ⟨b,4,none⟩ = some (.slice (some ⟨g,0,none⟩) 8 c)) (hg:OldNewE g w) :
  Calls Tryz.prog 164 #[.pointer (some ⟨b,0,none⟩)] w fun e w'=>e = .returned (.tuple #[]) /\ BuiltE W b w w':=by
 have hbl:b < w.heap.size:=World.block_lt_of_cell? w _ h0;have HF:=hide hf;have HG:=hide hg;clear hf hg;go_enter Tryz.func164,Tryz.ntmps164;go_wp2_with (go_at_call 184;refine (buildE_any b g c _ h4 HG.out).mono ?_;rintro e w2 ⟨rfl,ht,hb2⟩;have HT:=hide ht;have k3:=(hb2.cell (p:=⟨b,3,none⟩) hbl).trans h3;have k4:=(hb2.cell (p:=⟨b,4,none⟩) hbl).trans h4;have z3:=(hb2.frozen (p:=⟨b,3,none⟩) hbl).trans (HF.out 3);have z4:=(hb2.frozen (p:=⟨b,4,none⟩) hbl).trans (HF.out 4);have HB2:=hide hb2;clear ht hb2);go_end0;have k0:=(HB2.out.cell (p:=⟨b,0,none⟩) hbl).trans h0;have k1:=(HB2.out.cell (p:=⟨b,1,none⟩) hbl).trans h1;have z0:=(HB2.out.frozen (p:=⟨b,0,none⟩) hbl).trans (HF.out 0);have z1:=(HB2.out.frozen (p:=⟨b,1,none⟩) hbl).trans (HF.out 1);have hWw:W.heap.size <= w.heap.size:=hW.size;refine ⟨rfl,(HT.out.set hbl _).set hbl _,((hW.trans (HB2.out.mono hWw)).setCell hWb _).setCell hWb _,?_,?_,?_,?_,?_,?_⟩
 ·rw [z_set,z_set];exact HB2.out.size
 ·exact (World.cell?_setCell_other _ _ _ _ (ne_off (by decide))).trans (World.cell?_setCell_same _ _ _ k3)
 ·exact ((World.cell?_setCell_other _ _ _ _ (ne_off (by decide))).trans (World.cell?_setCell_other _ _ _ _ (ne_off (by decide)))).trans k0
 ·exact ((World.cell?_setCell_other _ _ _ _ (ne_off (by decide))).trans (World.cell?_setCell_other _ _ _ _ (ne_off (by decide)))).trans k1
 ·rw [World.frozen?_setCell,World.frozen?_setCell];exact z0
 ·rw [World.frozen?_setCell,World.frozen?_setCell];exact z1
def NewE (b:Nat) (w:World):Prop :=
  w.cell? ⟨b,0,none⟩ = some (.int .u32 0) /\ w.cell? ⟨b,1,none⟩ = some (.int .i32 0) /\ w.cell? ⟨b,3,none⟩ = some .nilIface /\ (∀ i:Nat,w.frozen? ⟨b,i,none⟩ = false) /\ ∃ g c:Nat,w.cell? ⟨b,4,none⟩ = some (.slice (some ⟨g,0,none⟩) 8 c) /\ OldNewE g w /\ b ≠ g
theorem doE_build (b:Nat) (W w:World) (hW:Below W.heap.size W w) (hWb:W.heap.size <= b) (hn:NewE b w) :
  Calls Tryz.prog 163 #[.pointer (some ⟨b,0,none⟩),.func (.func 164) #[.pointer (some ⟨b,0,none⟩)] #[]] w fun e w'=>e = .returned (.tuple #[]) /\
   TrieX w.heap.size w.heap.size w' /\ Below W.heap.size W w' /\ w.heap.size <= w'.heap.size /\ w'.cell? ⟨b,3,none⟩ = some (.iface 226 (.pointer (some ⟨w.heap.size,0,none⟩))):=by
 obtain ⟨h0,h1,h3,hf,g,c,h4,ho,hbg⟩:=hn;have hbl:b < w.heap.size:=World.block_lt_of_cell? w _ h0;have es:(w.setCell ⟨b,1,none⟩ (.int .i32 1)).heap.size = w.heap.size:=World.size_setCell ..
 have hb:=buildOnceE_any b g c W (w.setCell ⟨b,1,none⟩ (.int .i32 1)) (hW.setCell hWb _) hWb
  ((World.cell?_setCell_other _ _ _ _ (ne_off (by decide))).trans h0) (World.cell?_setCell_same _ _ _ h1) ((World.cell?_setCell_other _ _ _ _ (ne_off (by decide))).trans h3)
  (fun i=>by rw [World.frozen?_setCell];exact hf i) ((World.cell?_setCell_other _ _ _ _ (ne_off (by decide))).trans h4)
  (fun k hk=>⟨(World.cell?_setCell_other _ _ _ _ (ne_blk hbg)).trans (ho k hk).1,(World.cell?_setCell_other _ _ _ _ (ne_blk hbg)).trans (ho k hk).2⟩)
 refine (once_build b w _ h0 h1 (hf 0) (hf 1) hb (fun w' hq=>⟨hq.2.2.2.2.1,hq.2.2.2.2.2.1,hq.2.2.2.2.2.2.1,hq.2.2.2.2.2.2.2⟩)).mono ?_;rintro e w' ⟨rfl,w1,hq,rfl⟩;obtain ⟨q1,q2,q3,q4,_⟩:=hq;rw [es] at q1 q3 q4;refine ⟨rfl,((q1.drew).set hbl _).set hbl _,((q2.drew).setCell hWb _).setCell hWb _,?_,?_⟩
 ·rw [z_set,z_set];exact q3
 ·refine ((World.cell?_setCell_other _ _ _ _ (ne_off (by decide))).trans (World.cell?_setCell_other _ _ _ _ (ne_off (by decide)))).trans ?_;rw [World.cell?_drew];exact q4
theorem meth_generic (a : Addr) (w : World) : (method 423 226 (.pointer (some a)) "Replace").run Tryz.prog w = .ok (307, .pointer (some a)) w := by kernel_rfl
theorem replacerE_any (s:ByteArray) (b:Nat) (W w:World) (hW:Below W.heap.size W w) (hWb:W.heap.size <= b) (hn:NewE b w) (hs:s.size <= 17592186044416) :
  Calls Tryz.prog 138 #[.pointer (some ⟨b,0,none⟩),.string s] w fun e w'=>e = .returned (.string (str (escQ false s.data.toList))) /\ Below W.heap.size W w':=by
 rw [<- escG_Q];have hmt:=meth_generic;have HD:=hide (doE_build b W w hW hWb hn);have HS:=hide hs;have HW:=hide hW.size;clear hW hs hn;go_enter Tryz.func138,Tryz.ntmps138
 go_wp2_with (first
  |(go_at_call 163;refine HD.out.mono ?_;rintro e w1 ⟨rfl,hr1,hb1,hz1,hc1⟩;have HR1:=hide hr1;have HB1:=hide hb1;have HZ1:=hide hz1;clear hr1 hb1 hz1)
  |(go_at_call 307;obtain ⟨T,n0,n1,n2,n4,n5,ht,_,hi⟩:=HR1.out;refine (greplace_any s _ T n0 n1 n2 n4 n5 _ ht hi HS.out).mono ?_;rintro e w2 ⟨rfl,hb2⟩;have HB2:=hide hb2;clear hb2 ht hi))
 go_ret;exact ⟨rfl,HB1.out.trans (HB2.out.mono HB1.out.size)⟩
theorem newReplacerE_any (g:Nat) (w:World) (hg:OldNewE g w) :
  Calls Tryz.prog 137 #[.slice (some ⟨g,0,none⟩) 8 8] w fun e w'=>∃ b:Nat,e = .returned (.pointer (some ⟨b,0,none⟩)) /\ w.heap.size <= b /\ Below w.heap.size w w' /\ NewE b w':=by
 have g0:=(hg 0 (by omega)).1;have g1:=(hg 0 (by omega)).2;have g2:=(hg 1 (by omega)).1;have g3:=(hg 1 (by omega)).2;have g4:=(hg 2 (by omega)).1;have g5:=(hg 2 (by omega)).2;have g6:=(hg 3 (by omega)).1;have g7:=(hg 3 (by omega)).2;have e0:w.cell? ⟨g,0,none⟩ = some (.string ⟨#[38]⟩):=g0;have e1:w.cell? ⟨g,1,none⟩ = some (.string ⟨#[38,97,109,112,59]⟩):=g1;have e2:w.cell? ⟨g,2,none⟩ = some (.string ⟨#[60]⟩):=g2;have e3:w.cell? ⟨g,3,none⟩ = some (.string ⟨#[38,108,116,59]⟩):=g3;have e4:w.cell? ⟨g,4,none⟩ = some (.string ⟨#[62]⟩):=g4;have e5:w.cell? ⟨g,5,none⟩ = some (.string ⟨#[38,103,116,59]⟩):=g5;have e6:w.cell? ⟨g,6,none⟩ = some (.string ⟨#[194,160]⟩):=g6;have e7:w.cell? ⟨g,7,none⟩ = some (.string ⟨#[38,110,98,115,112,59]⟩):=g7;clear g0 g1 g2 g3 g4 g5 g6 g7 hg;go_enter Tryz.func137,Tryz.ntmps137;go_wp2_with fail;go_ret;generalize (Question.appendCap 8 0 9).cut _ = cp;have es:∀ C T,(w.alloc (.cells C T)).heap.size = w.heap.size + 1:=fun C T=>World.size_alloc ..
 refine ⟨w.heap.size + 1,rfl,Nat.le_succ _,(((Below.refl _ w).alloc (Nat.le_refl _) _).alloc (by rw [es];exact Nat.le_succ _) _).drew,?_,?_,?_,fun i=>?_,w.heap.size,cp,?_,fun k hk=>?_,by omega⟩
 iterate 3
  ·rw [World.cell?_drew,World.cell?_alloc_at _ _ _ _ (es _ _).symm];rfl
 ·rw [World.frozen?_drew];exact World.frozen?_alloc_at _ _ _ _ (es _ _).symm
 ·rw [World.cell?_drew,World.cell?_alloc_at _ _ _ _ (es _ _).symm];rfl
 ·match k,hk with
  | 0,_=>exact ⟨by rw [World.cell?_drew,World.cell?_alloc_past _ _ _ (by rw [es];exact Nat.lt_succ_self _),World.cell?_alloc_at _ _ _ _ rfl,Array.getElem?_append_left (by decide)];rfl,by rw [World.cell?_drew,World.cell?_alloc_past _ _ _ (by rw [es];exact Nat.lt_succ_self _),World.cell?_alloc_at _ _ _ _ rfl,Array.getElem?_append_left (by decide)];rfl⟩
  | 1,_=>exact ⟨by rw [World.cell?_drew,World.cell?_alloc_past _ _ _ (by rw [es];exact Nat.lt_succ_self _),World.cell?_alloc_at _ _ _ _ rfl,Array.getElem?_append_left (by decide)];rfl,by rw [World.cell?_drew,World.cell?_alloc_past _ _ _ (by rw [es];exact Nat.lt_succ_self _),World.cell?_alloc_at _ _ _ _ rfl,Array.getElem?_append_left (by decide)];rfl⟩
  | 2,_=>exact ⟨by rw [World.cell?_drew,World.cell?_alloc_past _ _ _ (by rw [es];exact Nat.lt_succ_self _),World.cell?_alloc_at _ _ _ _ rfl,Array.getElem?_append_left (by decide)];rfl,by rw [World.cell?_drew,World.cell?_alloc_past _ _ _ (by rw [es];exact Nat.lt_succ_self _),World.cell?_alloc_at _ _ _ _ rfl,Array.getElem?_append_left (by decide)];rfl⟩
  | 3,_=>exact ⟨by rw [World.cell?_drew,World.cell?_alloc_past _ _ _ (by rw [es];exact Nat.lt_succ_self _),World.cell?_alloc_at _ _ _ _ rfl,Array.getElem?_append_left (by decide)];rfl,by rw [World.cell?_drew,World.cell?_alloc_past _ _ _ (by rw [es];exact Nat.lt_succ_self _),World.cell?_alloc_at _ _ _ _ rfl,Array.getElem?_append_left (by decide)];rfl⟩
theorem old_newE (w:World) (t:TypeId):OldNewE w.heap.size (w.alloc (.cells #[.string ⟨#[38]⟩,.string ⟨#[38,97,109,112,59]⟩,.string ⟨#[60]⟩,.string ⟨#[38,108,116,59]⟩,.string ⟨#[62]⟩,.string ⟨#[38,103,116,59]⟩,.string ⟨#[194,160]⟩,.string ⟨#[38,110,98,115,112,59]⟩] t)):=by
 intro k hk
 match k,hk with
 | 0,_=>exact ⟨by rw [World.cell?_alloc_at _ _ _ _ rfl];rfl,by rw [World.cell?_alloc_at _ _ _ _ rfl];rfl⟩
 | 1,_=>exact ⟨by rw [World.cell?_alloc_at _ _ _ _ rfl];rfl,by rw [World.cell?_alloc_at _ _ _ _ rfl];rfl⟩
 | 2,_=>exact ⟨by rw [World.cell?_alloc_at _ _ _ _ rfl];rfl,by rw [World.cell?_alloc_at _ _ _ _ rfl];rfl⟩
 | 3,_=>exact ⟨by rw [World.cell?_alloc_at _ _ _ _ rfl];rfl,by rw [World.cell?_alloc_at _ _ _ _ rfl];rfl⟩
theorem entText_any (s:ByteArray) (w:World) (hs:s.size <= 17592186044416) :
  Calls Tryz.prog 97 #[.string s] w fun e w'=>e = .returned (.string (str (escQ false s.data.toList))) /\ Below w.heap.size w w':=by
 obtain ⟨X,hX⟩:∃ X,X = str (escQ false s.data.toList):=⟨_,rfl⟩
 have HX:=hide hX;have HON:=hide (old_newE w 9);have HB0:Hid (Below w.heap.size w (w.alloc (.cells #[.string ⟨#[38]⟩,.string ⟨#[38,97,109,112,59]⟩,.string ⟨#[60]⟩,.string ⟨#[38,108,116,59]⟩,.string ⟨#[62]⟩,.string ⟨#[38,103,116,59]⟩,.string ⟨#[194,160]⟩,.string ⟨#[38,110,98,115,112,59]⟩] 9))):=hide ((Below.refl _ w).alloc (Nat.le_refl _) _);rw [<- hX];clear hX;go_enter Tryz.func97,Tryz.ntmps97
 go_wp2_with (first
  |(go_at_call 137;refine (newReplacerE_any _ _ HON.out).mono ?_;rintro e w1 ⟨b,rfl,hbb,hb1,hn1⟩;have HN1:=hide hn1;have HB1:=hide (HB0.out.trans (hb1.mono HB0.out.size));have HBB:=hide (Nat.le_trans HB0.out.size hbb);clear hbb hb1 hn1)
  |(go_at_call 138;refine (replacerE_any s b w _ HB1.out HBB.out HN1.out hs).mono ?_;rw [<- HX.out];rintro e w2 ⟨rfl,hb2⟩;have HB2:=hide hb2;clear hb2))
 go_ret;exact ⟨rfl,HB2.out⟩
def attrW (escV:List UInt8 -> List UInt8) (a:AtL):List UInt8:=32 :: (a.1 ++ 61 :: 34 :: (escV a.2 ++ [34]))
def attrsW (escV:List UInt8 -> List UInt8) (A:List AtL):List UInt8:=A.flatMap (attrW escV)
def tokW (escT escV:List UInt8 -> List UInt8) (t:TokL):List UInt8 :=
  if t.kind = 1 then escT t.text else if t.kind = 2 then 60 :: (t.name ++ (attrsW escV t.attrs ++ [62])) else if t.kind = 3 then 60 :: 47 :: (t.name ++ [62]) else []
theorem alnum_ends (c:UInt8) (h:(letterB c || digitB c) = true):attrEndB c = false /\ whs c = false /\ c ≠ 62 /\ c ≠ 47 /\ c ≠ 33 /\ c ≠ 63 /\ nameEndB c = false :=
 u8_all (p:=fun c=>(letterB c || digitB c) = true -> (attrEndB c = false /\ whs c = false /\ c ≠ 62 /\ c ≠ 47 /\ c ≠ 33 /\ c ≠ 63 /\ nameEndB c = false)) (by decide +kernel) c h
theorem markL_start {dec:List UInt8 -> List UInt8} {c:UInt8} (h:letterB c = true) (r:List UInt8):markL dec (c :: r) = startL dec (c :: r):=by
 have:=alnum_ends c (by rw [h];rfl);unfold markL;split
 ·rename_i q heq;injection heq with h1 h2;exact absurd h1 this.2.2.2.1
 ·rename_i q heq;injection heq with h1 h2;exact absurd h1 this.2.2.2.2.1
 ·rename_i q heq;injection heq with h1 h2;exact absurd h1 this.2.2.2.2.2.1
 ·rfl
def kindN (z:Int):Nat:=if z = 1 then 1 else if z = 2 then 2 else if z = 3 then 3 else 0
def toL (p:TokG):TokL:=⟨kindN p.1,p.2.name,p.2.attrs,p.2.text⟩
def tokG (p:TokG):List UInt8:=tokW (escQ false) (escQ true) (toL p)
def writeG (l:List TokG):List UInt8:=l.flatMap tokG
theorem toL_kind {p:TokG} {n:Nat} (h:kindN p.1 = n):(toL p).kind = n:=h
theorem tokG_chars {p:TokG} (h:p.1 = 1):tokG p = escQ false p.2.text:=by
 have e:(toL p).kind = 1:=toL_kind (by rw [h];rfl);unfold tokG tokW;rw [if_pos e];rfl
theorem tokG_start {p:TokG} (h:p.1 = 2):tokG p = 60 :: (p.2.name ++ (attrsW (escQ true) p.2.attrs ++ [62])):=by
 have e:(toL p).kind = 2:=toL_kind (by rw [h];rfl);unfold tokG tokW;rw [if_neg (by rw [e];decide),if_pos e];rfl
theorem tokG_end {p:TokG} (h:p.1 = 3):tokG p = 60 :: 47 :: (p.2.name ++ [62]):=by
 have e:(toL p).kind = 3:=toL_kind (by rw [h];rfl);unfold tokG tokW;rw [if_neg (by rw [e];decide),if_neg (by rw [e];decide),if_pos e];rfl
theorem tokG_none {p:TokG} (h1:p.1 ≠ 1) (h2:p.1 ≠ 2) (h3:p.1 ≠ 3):tokG p = []:=by
 have e:(toL p).kind = 0:=toL_kind (by unfold kindN;rw [if_neg h1,if_neg h2,if_neg h3]);unfold tokG tokW;rw [if_neg (by rw [e];decide),if_neg (by rw [e];decide),if_neg (by rw [e];decide)]
def fitA (a:AtL):Bool:=decide (a.1.length <= 300) && decide (a.2.length <= 300)
def fitT (t:TokL):Bool:=decide (t.name.length <= 300) && (decide (t.text.length <= 300) && (decide (t.attrs.length <= 40) && t.attrs.all fitA))
theorem fitT_len {t:TokL} (h:fitT t = true):t.name.length <= 300 /\ t.text.length <= 300 /\ t.attrs.length <= 40 /\ ∀ a ∈ t.attrs,a.1.length <= 300 /\ a.2.length <= 300:=by
 unfold fitT at h;simp only [Bool.and_eq_true,decide_eq_true_eq,List.all_eq_true,fitA] at h;exact ⟨h.1,h.2.1,h.2.2.1,h.2.2.2⟩
theorem attrsW_len {A:List AtL} (h:∀ a ∈ A,a.1.length <= 300 /\ a.2.length <= 300):(attrsW (escQ true) A).length <= 2104 * A.length:=by
 unfold attrsW
 induction A with
 | nil=>simp
 | cons a r ih =>
  have h1:=h a (List.mem_cons_self ..);have h2:=ih (fun x hx=>h x (List.mem_cons_of_mem _ hx));have h3:=esc_len true a.2;rw [List.flatMap_cons,List.length_append,List.length_cons]
  have e:(attrW (escQ true) a).length = a.1.length + (escQ true a.2).length + 4:=by
   unfold attrW;simp only [List.length_cons,List.length_append,List.length_nil];omega
  rw [e];omega
theorem tokG_len {p:TokG} (h:fitT p.2 = true):(tokG p).length <= 84500:=by
 obtain ⟨h1,h2,h3,h4⟩:=fitT_len h
 by_cases k1:p.1 = 1
 ·rw [tokG_chars k1];have:=esc_len false p.2.text;omega
 by_cases k2:p.1 = 2
 ·rw [tokG_start k2];have:=attrsW_len h4;simp only [List.length_cons,List.length_append,List.length_nil];omega
 by_cases k3:p.1 = 3
 ·rw [tokG_end k3];simp only [List.length_cons,List.length_append,List.length_nil];omega
 rw [tokG_none k1 k2 k3];exact Nat.zero_le _
theorem writeG_len {l:List TokG} (h:∀ p ∈ l,fitT p.2 = true):(writeG l).length <= 84500 * l.length:=by
 unfold writeG
 induction l with
 | nil=>simp
 | cons p r ih =>
  have h1:=tokG_len (h p (List.mem_cons_self ..));have h2:=ih (fun x hx=>h x (List.mem_cons_of_mem _ hx));rw [List.flatMap_cons,List.length_append,List.length_cons];omega
def wfitA (a:AtL):Bool:=decide (a.1.length <= 100000) && decide (a.2.length <= 100000)
def wfitT (t:TokL):Bool:=decide (t.name.length <= 100000) && (decide (t.text.length <= 100000) && (decide (t.attrs.length <= 40) && t.attrs.all wfitA))
theorem wfitT_len {t:TokL} (h:wfitT t = true):t.name.length <= 100000 /\ t.text.length <= 100000 /\ t.attrs.length <= 40 /\ ∀ a ∈ t.attrs,a.1.length <= 100000 /\ a.2.length <= 100000:=by
 unfold wfitT at h;simp only [Bool.and_eq_true,decide_eq_true_eq,List.all_eq_true,wfitA] at h;exact ⟨h.1,h.2.1,h.2.2.1,h.2.2.2⟩
theorem wattrsW_len {A:List AtL} (h:∀ a ∈ A,a.1.length <= 100000 /\ a.2.length <= 100000):(attrsW (escQ true) A).length <= 700004 * A.length:=by
 unfold attrsW
 induction A with
 | nil=>simp
 | cons a r ih =>
  have h1:=h a (List.mem_cons_self ..);have h2:=ih (fun x hx=>h x (List.mem_cons_of_mem _ hx));have h3:=esc_len true a.2;rw [List.flatMap_cons,List.length_append,List.length_cons]
  have e:(attrW (escQ true) a).length = a.1.length + (escQ true a.2).length + 4:=by
   unfold attrW;simp only [List.length_cons,List.length_append,List.length_nil];omega
  rw [e];omega
theorem wtokG_len {p:TokG} (h:wfitT p.2 = true):(tokG p).length <= 28400000:=by
 obtain ⟨h1,h2,h3,h4⟩:=wfitT_len h
 by_cases k1:p.1 = 1
 ·rw [tokG_chars k1];have:=esc_len false p.2.text;omega
 by_cases k2:p.1 = 2
 ·rw [tokG_start k2];have:=wattrsW_len h4;simp only [List.length_cons,List.length_append,List.length_nil];omega
 by_cases k3:p.1 = 3
 ·rw [tokG_end k3];simp only [List.length_cons,List.length_append,List.length_nil];omega
 rw [tokG_none k1 k2 k3];exact Nat.zero_le _
theorem wwriteG_len {l:List TokG} (h:∀ p ∈ l,wfitT p.2 = true):(writeG l).length <= 28400000 * l.length:=by
 unfold writeG
 induction l with
 | nil=>simp
 | cons p r ih =>
  have h1:=wtokG_len (h p (List.mem_cons_self ..));have h2:=ih (fun x hx=>h x (List.mem_cons_of_mem _ hx));rw [List.flatMap_cons,List.length_append,List.length_cons];omega
theorem fitA_wide {a:AtL} (h:fitA a = true):wfitA a = true:=by
 unfold fitA at h;unfold wfitA;simp only [Bool.and_eq_true,decide_eq_true_eq] at h ⊢;omega
theorem fitT_wide {t:TokL} (h:fitT t = true):wfitT t = true:=by
 unfold fitT at h;unfold wfitT;simp only [Bool.and_eq_true,decide_eq_true_eq,List.all_eq_true] at h ⊢;exact ⟨by omega,by omega,by omega,fun a ha=>fitA_wide (h.2.2.2 a ha)⟩
instance decTK2:DecidableEq (List UInt8 × List AtL):=inferInstance
instance decTK1:DecidableEq (List UInt8 × List UInt8 × List AtL):=inferInstance
instance decTK0:DecidableEq (Int × List UInt8 × List UInt8 × List AtL):=inferInstance
def EnvX (w:World):Prop:=EnvE w /\ ∃ m:Int,w.cell? ⟨0,0,none⟩ = some (.int .i64 m)
theorem EnvX.kept {w w':World} (h:EnvX w) (hb:Below w.heap.size w w'):EnvX w':=by
 obtain ⟨h1,m,h2⟩:=h;exact ⟨h1.kept hb,m,(hb.cell (p:=⟨0,0,none⟩) (World.block_lt_of_cell? _ _ h2)).trans h2⟩
theorem entValue_any (s:ByteArray) (w:World) (hs:s.size <= 1048576) (hE:EnvX w) :
  Calls Tryz.prog 185 #[.string s] w fun e w'=>e = .returned (.string (str (escQ true s.data.toList))) /\ Below w.heap.size w w':=by
 obtain ⟨V,hV⟩:∃ V,V = str (escQ false s.data.toList):=⟨_,rfl⟩
 have hz:V.size <= 6 * s.size:=by
  rw [hV,str_size,<- toList_length s];exact esc_len false _
 have HT:=hide (fun (w:World)=>entText_any s w (by omega));rw [<- hV] at HT;have hVl:V.data.toList = escQ false s.data.toList:=by rw [hV,str_toList]
 have HR:Hid ((⟨(Lib.replaceAll V.data.toList (⟨#[34]⟩:ByteArray).data.toList (⟨#[38,113,117,111,116,59]⟩:ByteArray).data.toList).toArray⟩:ByteArray) = str (escQ true s.data.toList)):=hide (by
  rw [hVl,escQ_value];rfl)
 have hcb:Lib.countB V ⟨#[34]⟩ <= V.size + 1:=by
  have:=Lib.count_le V.data.toList (⟨#[34]⟩:ByteArray).data.toList;rw [toList_length] at this;exact this
 have HLN:Hid (V.size + Lib.countB V ⟨#[34]⟩ * (⟨#[38,113,117,111,116,59]⟩:ByteArray).size <= 140737488355328):=hide (by
  rw [show (⟨#[38,113,117,111,116,59]⟩:ByteArray).size = 6 from rfl];omega)
 have HVS:Hid (V.size < 4294967281):=hide (by omega);have HE:=hide hE;clear hV hVl hcb hE hz;go_enter Tryz.func185,Tryz.ntmps185
 go_wp2_with (first
  |(go_at_call 97;refine (HT.out _).mono ?_;rintro e w1 ⟨rfl,hb1⟩;have HE1:=hide (HE.out.kept hb1);have HB1:=hide hb1;clear hb1;obtain ⟨_,m,hm⟩:=HE1.out;have HM:=hide hm;clear hm)
  |(go_at_call 216;refine (Tryz.strings_ReplaceAll V ⟨#[34]⟩ ⟨#[38,113,117,111,116,59]⟩ m _ HVS.out HM.out (by decide) HLN.out).mono ?_;rintro e w2 ⟨rfl,hb2⟩;have HB2:=hide (HB1.out.trans (hb2.mono HB1.out.size));clear hb2))
 go_ret;exact ⟨by rw [HR.out] <;> rfl,HB2.out⟩
def KB (w w':World):Prop:=∀ (m:Nat) cur e fr,w.heap[m]? = some (Obj.cells cur e fr) -> e ≠ 78 -> e ≠ 5 -> w'.heap[m]? = some (Obj.cells cur e fr)
theorem KB.refl (w:World):KB w w:=fun _ _ _ _ h _ _=>h
theorem KB.trans {a b c:World} (h:KB a b) (k:KB b c):KB a c:=fun m cur e fr hm h1 h2=>k m cur e fr (h m cur e fr hm h1 h2) h1 h2
theorem KB.alloc (w:World) (o:Obj):KB w (w.alloc o):=fun m cur e fr hm _ _=>(Below.heap_alloc w o m (Array.getElem?_eq_some_iff.1 hm).1).trans hm
theorem KB.below {w w':World} (h:Below w.heap.size w w'):KB w w':=fun m cur e fr hm _ _=>(h.block m (Array.getElem?_eq_some_iff.1 hm).1).trans hm
theorem KB.set {w:World} {b:Nat} {cs:Array Value} {fr:Nat × Nat} (h:w.heap[b]? = some (.cells cs 78 fr)) (i:Nat) (v:Value):KB w (w.setCell ⟨b,i,none⟩ v):=fun m cur e fr' hm h1 h2=>by
 have hne:m ≠ b:=by
  rintro rfl;rw [h] at hm;injection hm with hm;injection hm with _ hm;exact h1 hm.symm
 exact (Below.heap_setCell w _ v m hne).trans hm
theorem KB.own {w w':World} {B n:Nat} {v:Value} {xs:List Value} (h:w.ownsRow B 5 1 v n xs) (hg:w.grownBy w' v.ownBlock):KB w w':=fun m cur e fr hm h1 h2=>by
 refine (hg.block m (Array.getElem?_eq_some_iff.1 hm).1 (fun he=>?_)).trans hm;rcases h.2 with ⟨rfl,_⟩ | ⟨g,cap,cur',rfl,_,hh,_⟩
 ·simp [Value.ownBlock] at he
 ·have e1:g = m:=by simpa [Value.ownBlock] using he.symm
  subst e1;rw [hh] at hm;injection hm with hm;injection hm with _ hm;exact h2 hm.symm
theorem below_one' (w:World) (o:Obj):Below w.heap.size w (w.alloc o):=(Below.refl _ _).alloc (Nat.le_refl _) _
theorem copyCheckK_any (B b:Nat) (bs:List Value) (w:World) (h:Lib.IsBuilder 78 5 B b bs w) :
  Calls Tryz.prog 103 #[.pointer (some ⟨b,0,none⟩)] w fun e w'=>e = .returned (.tuple #[]) /\ Lib.BuilderAt 78 5 B b (.pointer (some ⟨b,0,none⟩)) bs w' /\ Below B w w' /\ KB w w':=by
 rcases h with h | h
 ·obtain ⟨hB,v,hbk,ho,hne⟩:=id h;refine (copyCheck_fresh b w h.cell0 h.shape h.frozen0).mono ?_;rintro e w' ⟨rfl,rfl⟩;exact ⟨rfl,h.used _,(Below.refl B w).setCell (p:=⟨b,0,none⟩) h.1 _,KB.set hbk _ _⟩
 ·refine (copyCheck_used b w h.cell0).mono ?_;rintro e w' ⟨rfl,rfl⟩;exact ⟨rfl,h,Below.refl B _,KB.refl _⟩
theorem writeStringK_any (B b : Nat) (l : List UInt8) (s : ByteArray) (W0 w : World) (h : Bld B b l W0 w) (hlen : l.length + s.size ≤ 140737488355328) :
    Calls Tryz.prog 64 #[.pointer (some ⟨b, 0, none⟩), .string s] w fun e w' => e = .returned (.tuple #[.int .i64 s.size, .nilIface]) ∧ Bld B b (l ++ s.data.toList) W0 w' ∧ KB w w' := by
  obtain ⟨h, hbel, hBw⟩ := h
  obtain ⟨i0, hi, hz0, hz1, hz2⟩ := info_parts info_u8
  have HBL := hide hbel
  clear hbel
  go_enter Tryz.func64, Tryz.ntmps64
  go_wp2_with fail
  refine (copyCheckK_any B b (cellsOf l) _ h).mono ?_
  rintro e w1 ⟨rfl, h1, hb1, hk1⟩
  have HK1 := hide hk1
  clear hk1
  obtain ⟨hB, v, hbk, hown, hne⟩ := h1
  have c1 : w1.cell? ⟨b, 1, none⟩ = some v := by rw [Lib.cell_of_heap hbk]; rfl
  have hlt : b < w1.heap.size := lt_of_block hbk
  have hl1 : (cellsOf l).length = l.length := cellsOf_length l
  have HBK := hide hbk
  have HOWN := hide hown
  have HNE := hide hne
  have HB1 := hide hb1
  have hsz1 := hb1.size
  have HI := hide hi
  have HZ0 := hide hz0
  have HZ1 := hide hz1
  have HZ2 := hide hz2
  have HL1 := hide hl1
  clear hbk hown hne hb1 hi hz0 hz1 hz2 h
  go_wp2_with (refine Lib.wpList_append_own_string _ rfl _ _ 56 9 rfl B 5 i0 Tryz.underlying56 Tryz.underlying9 HI.out HZ0.out HZ1.out HZ2.out v (cellsOf l).length (cellsOf l) rfl HOWN.out s rfl (by rw [HL1.out]; unfold maxLen; omega) (by rw [HL1.out]; omega) (by omega) ?_
               intro v' w2 hown' hgrow _
               obtain ⟨ao, n', cap, rfl⟩ : ∃ ao n' cap, v' = .slice ao n' cap := by
                 rcases hown'.2 with ⟨hv, _⟩ | ⟨g, cap, cur, hv, _⟩
                 · exact ⟨_, _, _, hv⟩
                 · exact ⟨_, _, _, hv⟩
               have hb2 : w2.heap[b]? = some (.cells #[.pointer (some ⟨b, 0, none⟩), v] 78 (0, 0)) := by
                 rw [hgrow.block b hlt (fun e => HNE.out e.symm)]
                 exact HBK.out
               have d1 : w2.cell? ⟨b, 1, none⟩ = some v := by rw [Lib.cell_of_heap hb2]; rfl
               have f1 : w2.frozen? ⟨b, 1, none⟩ = false := Lib.frozen_of_heap hb2 1
               have HKB := hide (HK1.out.trans (KB.own HOWN.out hgrow))
               have HO2 := hide hown'
               have HG2 := hide hgrow
               have HB2 := hide hb2
               clear hown' hgrow hb2)
  go_ret2
  have hb3 : Below B w w2 := HB1.out.grown HG2.out (by omega) (fun k hk => (HOWN.out.lt k hk).1)
  refine ⟨rfl, ⟨.inr ?_, (HBL.out.trans hb3).setCell (p := ⟨b, 1, none⟩) hB _, ?_⟩, HKB.out.trans (KB.set HB2.out _ _)⟩
  · refine Lib.BuilderAt.put (T := 78) (e := 5) hB HB2.out (bs' := cellsOf (l ++ s.data.toList)) ?_ (by decide)
    have ho := HO2.out
    have e1 : cellsOf (l ++ s.data.toList) = cellsOf l ++ Lib.strCells s := by rw [cellsOf_str, cellsOf, List.map_append]; rfl
    rw [e1, List.length_append, Lib.strCells_length]
    exact ho
  · have := hb3.size
    simp [World.setCell]
    omega
theorem alloc_new_block (w:World) (o:Obj):(w.alloc o).heap[w.heap.size]? = some o:=by show (w.heap.push _)[w.heap.size]? = _;exact Array.getElem?_push_size
theorem toA_append (a b:ByteArray):(a ++ b).data.toList = a.data.toList ++ b.data.toList:=by
 simp
theorem attrsW_take {A:List AtL} {k:Nat} {f:AtL} (h:A[k]? = some f):attrsW (escQ true) (A.take (k + 1)) = attrsW (escQ true) (A.take k) ++ attrW (escQ true) f:=by
 unfold attrsW;rw [List.take_add_one,h,List.flatMap_append];simp
theorem writeG_take {A:List TokG} {k:Nat} {f:TokG} (h:A[k]? = some f):writeG (A.take (k + 1)) = writeG (A.take k) ++ tokG f:=by
 unfold writeG;rw [List.take_add_one,h,List.flatMap_append];simp
theorem attrsW_take_len {A:List AtL} (h:∀ a ∈ A,a.1.length <= 300 /\ a.2.length <= 300) (k:Nat):(attrsW (escQ true) (A.take k)).length <= 2104 * A.length:=by
 have h1:=attrsW_len (A:=A.take k) (fun a ha=>h a (List.mem_of_mem_take ha));have h2:(A.take k).length <= A.length:=by rw [List.length_take];exact Nat.min_le_right _ _
 exact Nat.le_trans h1 (Nat.mul_le_mul_left _ h2)
theorem wattrsW_take_len {A:List AtL} (h:∀ a ∈ A,a.1.length <= 100000 /\ a.2.length <= 100000) (k:Nat):(attrsW (escQ true) (A.take k)).length <= 700004 * A.length:=by
 have h1:=wattrsW_len (A:=A.take k) (fun a ha=>h a (List.mem_of_mem_take ha));have h2:(A.take k).length <= A.length:=by rw [List.length_take];exact Nat.min_le_right _ _
 exact Nat.le_trans h1 (Nat.mul_le_mul_left _ h2)
theorem writeStart_any (b:Nat) (x:List UInt8) (K:Int) (N T:List UInt8) (A:List AtL) (d:Option Addr) (y:Nat) (W0 w:World) (h:Bld W0.heap.size b x W0 w) (ha:AttrsIn W0 (.slice d A.length y) A)
  (hN:N.length <= 100000) (hA:A.length <= 40) (hf:∀ a ∈ A,a.1.length <= 100000 /\ a.2.length <= 100000) (hE:EnvX W0) (hx:x.length <= 1099511627776) :
  Calls Tryz.prog 165 #[.pointer (some ⟨b,0,none⟩),.agg #[.int .i64 K,.string (str N),.slice d A.length y,.string (str T)]] w fun e w'=>e = .returned (.tuple #[]) /\ Bld W0.heap.size b (x ++ 60 :: (N ++ (attrsW (escQ true) A ++ [62]))) W0 w':=by
 obtain ⟨n,hn⟩:∃ n,A.length = n:=⟨_,rfl⟩
 obtain ⟨X,hX⟩:∃ X,X = str N:=⟨_,rfl⟩
 obtain ⟨Y,hY⟩:∃ Y,Y = str T:=⟨_,rfl⟩
 have zX:X.size <= 100000:=by rw [hX,str_size];exact hN
 have HXL:Hid (X.data.toList = N):=hide (by rw [hX,str_toList]);rw [<- hX,<- hY];have HA:=hide ha;have HF:=hide hf;have HE:=hide hE;have HXZ:=hide hx;have HNL:=hide hn;have HAL:=hide hA;have hn40:n <= 40:=by omega
 rw [hn] at HA ⊢;have hbx:=h.kept (below_one' w (.cells #[.int .i64 K,.string X,.slice d n y,.string Y] 51));have HB:=hide hbx;have HBX:=hide (alloc_new_block w (.cells #[.int .i64 K,.string X,.slice d n y,.string Y] 51));clear ha hf hE hx hn h hbx hX hY hA;go_enter Tryz.func165,Tryz.ntmps165;go_wp2_with fail;refine (writeStringK_any _ _ x _ W0 _ HB.out (by rw [ByteArray.size_append];have:=HXZ.out;show _ + (1 + _) <= _;omega)).mono ?_;rintro e w1 ⟨rfl,hb1,hk1⟩;have HB1:=hide hb1;have hc1:=hk1 _ _ _ _ HBX.out (by decide) (by decide);have k2:w1.cell? ⟨w.heap.size,2,none⟩ = some (.slice d n y):=by rw [Lib.cell_of_heap hc1];rfl
 clear hb1 hk1 hc1;go_wp2_with fail;go_loopw [14] (fun i wr=>∃ k:Nat,k <= n /\ i = .int .i64 k /\ Hid (Bld W0.heap.size b (x ++ 60 :: (N ++ attrsW (escQ true) (A.take k))) W0 wr)) (fun i _=>n - (intOf i).toNat)
 case atStart=>exact ⟨0,Nat.zero_le _,rfl,hide (by
  have h0:=HB1.out;rw [toA_append,HXL.out] at h0;rw [List.take_zero]
  simpa [attrsW] using h0)⟩
 case round =>
  obtain ⟨k,hk,rfl,HR⟩:=hrel
  by_cases hlt:k < n
  ·obtain ⟨f,hf⟩:∃ f,A[k]? = some f:=⟨_,List.getElem?_eq_getElem (by have:=HNL.out;omega)⟩
   obtain ⟨a,ha,hc1,hc2⟩:=(HA.out.kept HR.out.2.1).at k f hf;subst ha;obtain ⟨z1,z2⟩:=HF.out f (List.mem_of_getElem? hf);obtain ⟨P,hP⟩:∃ P,P = str f.1:=⟨_,rfl⟩
   obtain ⟨V,hV⟩:∃ V,V = str f.2:=⟨_,rfl⟩
   have zP:P.size <= 100000:=by rw [hP,str_size];exact z1
   have zV:V.size <= 100000:=by rw [hV,str_size];exact z2
   rw [<- hP] at hc1;rw [<- hV] at hc2;have hEV:=fun w2 h=>entValue_any V w2 (by omega) h
   obtain ⟨Q,hQ⟩:∃ Q,Q = str (escQ true V.data.toList):=⟨_,rfl⟩
   have zQ:Q.size <= 600000:=by
    rw [hQ,str_size];have:=esc_len true V.data.toList;rw [toList_length] at this;omega
   rw [<- hQ] at hEV;have HEV:=hide hEV;have HEW:Hid (∀ w2,Below W0.heap.size W0 w2 -> EnvX w2):=hide fun w2 h=>HE.out.kept h
   have hxl:(x ++ 60 :: (N ++ attrsW (escQ true) (A.take k))).length <= 1099611727776:=by
    have:=wattrsW_take_len HF.out k;have:=HXZ.out;have:=HAL.out;rw [List.length_append,List.length_cons,List.length_append];omega
   have HXX:=hide hxl
   have HNX:Hid (∀ z:ByteArray,z.data.toList = attrW (escQ true) f -> x ++ 60 :: (N ++ attrsW (escQ true) (A.take k)) ++ z.data.toList = x ++ 60 :: (N ++ attrsW (escQ true) (A.take (k + 1)))):=hide fun z hz=>by
    rw [hz,attrsW_take hf];simp
   have HAW:Hid (P.data.toList = f.1 /\ Q.data.toList = escQ true f.2):=hide ⟨by rw [hP,str_toList],by rw [hQ,hV,str_toList,str_toList]⟩;have q1:¬ (9223372036854775807 < 1 + P.size):=by omega
   have q2:¬ (9223372036854775807 < 1 + P.size + 2):=by omega
   have q3:¬ (9223372036854775807 < 1 + P.size + 2 + Q.size):=by omega
   have q4:¬ (9223372036854775807 < 1 + P.size + 2 + Q.size + 1):=by omega
   clear hf hP hV hQ hEV z1 z2 hxl;have HBA:Hid (Bld W0.heap.size b _ W0 (wr.alloc (.cells #[.string P,.string V] 43)).drew):=hide (HR.out.kept ((below_one' wr (.cells #[.string P,.string V] 43)).trans (Below.refl _ _).drew))
   have HAL2:Hid (∀ w3,Below (wr.alloc (.cells #[.string P,.string V] 43)).drew.heap.size (wr.alloc (.cells #[.string P,.string V] 43)).drew w3 -> w3.heap[wr.heap.size]? = some (.cells #[.string P,.string V] 43)):=hide fun w3 h=>by
    rw [h.block wr.heap.size (by show wr.heap.size < (wr.alloc _).heap.size;rw [World.size_alloc];exact Nat.lt_succ_self _)];exact alloc_new_block wr _
   go_wp2_with fail
   go_region_with (first
    |(go_at_call 185;refine (HEV.out _ (HEW.out _ HBA.out.2.1)).mono ?_;rintro e w3 ⟨rfl,hb3⟩;have HB3:=hide (HBA.out.kept hb3);have k7:=cell_of_row w3 wr.heap.size 0 _ _ _ (HAL2.out _ hb3);have k8:=cell_of_row w3 wr.heap.size 1 _ _ _ (HAL2.out _ hb3);clear hb3)
    |(go_at_call 64;refine (writeString_any _ _ _ _ W0 _ HB3.out (by simp only [ByteArray.size_append];have:=HXX.out;show _ + (1 + _ + 2 + _ + 1) <= _;omega)).mono ?_;rintro e w4 ⟨rfl,hb4⟩;have HB4:=hide hb4;clear hb4)
    |fail)
   all_goals
    have HB5:Hid (Bld W0.heap.size b (x ++ 60 :: (N ++ attrsW (escQ true) (A.take (k + 1)))) W0 w4):=hide (by
     rw [<- HNX.out ((⟨#[32]⟩:ByteArray) ++ P ++ ⟨#[61,34]⟩ ++ Q ++ ⟨#[34]⟩) (by simp only [toA_append,HAW.out.1,HAW.out.2];unfold attrW;simp)];exact HB4.out)
    go_wp2_with fail;go_roundw
    case rel=>exact ⟨k + 1,by omega,by go_num,HB5⟩
    case measure=>simp [intOf];omega
  ·have hk2:k = n:=by omega
   subst hk2
   have HL:Hid (x ++ 60 :: (N ++ attrsW (escQ true) (A.take k)) ++ [62] = x ++ 60 :: (N ++ (attrsW (escQ true) A ++ [62]))):=hide (by
    rw [List.take_of_length_le (by have:=HNL.out;omega)];simp)
   have hxl:(x ++ 60 :: (N ++ attrsW (escQ true) (A.take k))).length <= 1099611727776:=by
    have:=wattrsW_take_len HF.out k;have:=HXZ.out;have:=HAL.out;rw [List.length_append,List.length_cons,List.length_append];omega
   have HXX:=hide hxl;clear hxl;go_wp2_with fail;refine (writeString_any _ _ _ _ W0 _ HR.out (by have:=HXX.out;show _ + 1 <= _;omega)).mono ?_;rintro e w5 ⟨rfl,hb5⟩;have HB5:=hide hb5;clear hb5;go_wp2_with fail;go_end0;exact ⟨rfl,by rw [<- HL.out];exact HB5.out⟩
theorem write_wide13 (v:Value) (l:List TokG) (w:World) (h:ToksIn w v l) (hl:l.length <= 1000) (hf:∀ p ∈ l,wfitT p.2 = true) (hE:EnvX w) :
  Calls Tryz.prog 139 #[v] w fun e w'=>e = .returned (.string (str (writeG l))) /\ Below w.heap.size w w':=by
 obtain ⟨A,c,rfl⟩:=h.form;obtain ⟨n,hn⟩:∃ n,l.length = n:=⟨_,rfl⟩
 have H:=hide h;have HF:=hide hf;have HE:=hide hE;have HNL:=hide hn;have HN0:=hide (Bld.new (w:=w) (W0:=w) (B:=w.heap.size) (Below.refl _ _) (Nat.le_refl _));rw [hn] at H hl ⊢;clear h hf hE hn;go_enter Tryz.func139,Tryz.ntmps139;go_wp2_with fail;go_loopw [8] (fun i wr=>∃ k:Nat,k <= n /\ i = .int .i64 k /\ Hid (Bld w.heap.size w.heap.size (writeG (l.take k)) w wr)) (fun i _=>n - (intOf i).toNat)
 case atStart=>exact ⟨0,Nat.zero_le _,rfl,hide (by rw [List.take_zero];exact HN0.out)⟩
 case round =>
  obtain ⟨k,hk,rfl,HR⟩:=hrel
  by_cases hlt:k < n
  ·obtain ⟨f,hf⟩:∃ f,l[k]? = some f:=⟨_,List.getElem?_eq_getElem (by have:=HNL.out;omega)⟩
   obtain ⟨a,d,y,ha,c1,c2,c3,c4,hA⟩:=(H.out.kept HR.out.2.1).at k f hf;obtain ⟨a0,d0,y0,ha0,_,_,_,c40,hA0⟩:=H.out.at k f hf;subst ha
   have hdy:AttrsIn w (.slice d f.2.attrs.length y) f.2.attrs:=by
    injection ha0 with ha0;subst ha0;have e:=(HR.out.2.1.cell (World.block_lt_of_cell? _ _ c40)).trans c40;rw [c4] at e;injection e with e;rw [e];exact hA0
   obtain ⟨z1,z2,z3,z4⟩:=wfitT_len (HF.out f (List.mem_of_getElem? hf))
   have hwl:(writeG (l.take k)).length <= 28400000000:=by
    have h1:=wwriteG_len (l:=l.take k) (fun p hp=>HF.out p (List.mem_of_mem_take hp));have h2:(l.take k).length <= n:=by rw [List.length_take,HNL.out];exact Nat.min_le_right _ _
    omega
   have HNX:Hid (∀ z,z = tokG f -> writeG (l.take k) ++ z = writeG (l.take (k + 1))):=hide fun z hz=>by rw [hz,writeG_take hf]
   have HNO:Hid (tokG f = [] -> writeG (l.take k) = writeG (l.take (k + 1))):=hide fun hz=>by rw [writeG_take hf,hz,List.append_nil]
   have HEW:Hid (∀ w2,Below w.heap.size w w2 -> EnvX w2):=hide fun w2 h=>HE.out.kept h
   obtain ⟨X,hX⟩:∃ X,X = str f.2.name:=⟨_,rfl⟩
   obtain ⟨Y,hY⟩:∃ X,X = str f.2.text:=⟨_,rfl⟩
   have zX:X.size <= 100000:=by rw [hX,str_size];exact z1
   have zY:Y.size <= 100000:=by rw [hY,str_size];exact z2
   have HXL:Hid (X.data.toList = f.2.name):=hide (by rw [hX,str_toList]);have HYL:Hid (Y.data.toList = f.2.text):=hide (by rw [hY,str_toList]);obtain ⟨kf,hkf⟩:∃ z:Int,z = f.1:=⟨_,rfl⟩
   rw [<- hkf] at c1;have HWS:=hide (fun w2 (h2:Bld w.heap.size w.heap.size (writeG (l.take k)) w w2)=>writeStart_any w.heap.size (writeG (l.take k)) kf f.2.name f.2.text f.2.attrs d y w w2 h2 hdy z1 z3 z4 HE.out (by omega));rw [<- hX,<- hY] at HWS;rw [<- hX] at c2;rw [<- hY] at c3;obtain ⟨m,hm⟩:∃ m,f.2.attrs.length = m:=⟨_,rfl⟩
   rw [hm] at c4 HWS;have HBA:=hide (HR.out.kept (below_one' wr (.cells #[.int .i64 kf,.string X,.slice d m y,.string Y] 51)));have HWL:=hide hwl;clear hf ha0 c40 hA0 hA hdy z1 z2 z3 z4 hwl hX hY hm
   by_cases k1:kf = 1
   ·have s1:(kf == 1) = true:=by rw [k1];rfl
    have HT:=hide (entText_any Y (wr.alloc (.cells #[.int .i64 kf,.string X,.slice d m y,.string Y] 51)) (by omega));obtain ⟨Q,hQ⟩:∃ Q,Q = str (escQ false Y.data.toList):=⟨_,rfl⟩
    have zQ:Q.size <= 600000:=by
     rw [hQ,str_size];have:=esc_len false Y.data.toList;rw [toList_length] at this;omega
    rw [<- hQ] at HT;have HQL:Hid (Q.data.toList = tokG f):=hide (by rw [hQ,str_toList,HYL.out,tokG_chars (by rw [<- hkf];exact k1)]);clear hQ hkf;subst k1;go_wp2_with fail;refine HT.out.mono ?_;rintro e w2 ⟨rfl,hb2⟩;have HB2:=hide (HBA.out.kept hb2);clear hb2;go_wp2_with fail;refine (writeString_any _ _ _ Q w _ HB2.out (by have:=HWL.out;omega)).mono ?_;rintro e w3 ⟨rfl,hb3⟩;have HB3:=hide hb3;clear hb3;go_wp2_with fail;go_roundw
    case rel=>exact ⟨k + 1,by omega,by go_num,hide (by rw [<- HNX.out _ HQL.out];exact HB3.out)⟩
    case measure=>simp [intOf];omega
   have s1:(kf == 1) = false:=beq_eq_false_iff_ne.2 k1
   by_cases k2:kf = 2
   ·have s2:(kf == 2) = true:=by rw [k2];rfl
    have HTG:Hid (60 :: (f.2.name ++ (attrsW (escQ true) f.2.attrs ++ [62])) = tokG f):=hide (tokG_start (by rw [<- hkf];exact k2)).symm;clear hkf;subst k2;go_wp2_with fail;refine (HWS.out _ HBA.out).mono ?_;rintro e w3 ⟨rfl,hb3⟩;have HB3:=hide hb3;clear hb3;go_wp2_with fail;go_roundw
    case rel=>exact ⟨k + 1,by omega,by go_num,hide (by rw [<- HNX.out _ HTG.out];exact HB3.out)⟩
    case measure=>simp [intOf];omega
   have s2:(kf == 2) = false:=beq_eq_false_iff_ne.2 k2
   by_cases k3:kf = 3
   ·have s3:(kf == 3) = true:=by rw [k3];rfl
    have HTG:Hid (60 :: 47 :: (f.2.name ++ [62]) = tokG f):=hide (tokG_end (by rw [<- hkf];exact k3)).symm;clear hkf;subst k3;go_wp2_with fail;refine (writeString_any _ _ _ _ w _ HBA.out (by simp only [ByteArray.size_append];have:=HWL.out;show _ + (2 + _ + 1) <= _;omega)).mono ?_;rintro e w3 ⟨rfl,hb3⟩;have HB3:=hide hb3;clear hb3;go_wp2_with fail;go_roundw
    case rel=>exact ⟨k + 1,by omega,by go_num,hide (by
     have h:=HB3.out;rw [toA_append,toA_append,HXL.out] at h;rw [<- HNX.out _ HTG.out]
     simpa using h)⟩
    case measure=>simp [intOf];omega
   have s3:(kf == 3) = false:=beq_eq_false_iff_ne.2 k3;have HTG:=hide (HNO.out (tokG_none (by rw [<- hkf];exact k1) (by rw [<- hkf];exact k2) (by rw [<- hkf];exact k3)));clear hkf k1 k2 k3;go_wp2_with fail;go_roundw
   case rel=>exact ⟨k + 1,by omega,by go_num,hide (by rw [<- HTG.out];exact HBA.out)⟩
   case measure=>simp [intOf];omega
  ·have hk2:k = n:=by omega
   subst hk2;have HL:Hid (writeG (l.take k) = writeG l):=hide (by rw [List.take_of_length_le (by have:=HNL.out;omega)]);rw [HL.out] at HR;go_wp2_with fail;refine HR.out.string.mono ?_;rintro e w5 ⟨rfl,hb5⟩;have HB5:=hide hb5;clear hb5;go_wp2_with fail;go_ret;exact ⟨rfl,HB5.out⟩
theorem rawW_any (n:ByteArray) (w:World) :
  Calls Tryz.prog 99 #[.string n] w fun e w'=>e = .returned (.bool (rawL.contains n.data.toList)) /\ w = w':=by
 cases hk:rawL.contains n.data.toList with
 | true =>
  rcases rawL_cases _ hk with h | h | h | h | h | h | h | h | h | h
  iterate 10
   ·obtain rfl:=ext_lit h;clear hk h;go_enter Tryz.func99,Tryz.ntmps99;go_wp2_with fail;go_ret;exact ⟨rfl,rfl⟩
 | false =>
  obtain ⟨n0,n1,n2,n3,n4,n5,n6,n7,n8,n9⟩:=rawL_none _ hk;have t0:=nb_lit n0;have t1:=nb_lit n1;have t2:=nb_lit n2;have t3:=nb_lit n3;have t4:=nb_lit n4;have t5:=nb_lit n5;have t6:=nb_lit n6;have t7:=nb_lit n7;have t8:=nb_lit n8;have t9:=nb_lit n9;clear hk n0 n1 n2 n3 n4 n5 n6 n7 n8 n9;go_enter Tryz.func99,Tryz.ntmps99;go_wp2_with fail;go_ret;exact ⟨rfl,rfl⟩
def voidL:List (List UInt8):=[[97,114,101,97],[98,97,115,101],[98,114],[99,111,108],[101,109,98,101,100],[104,114],[105,109,103],[105,110,112,117,116],[108,105,110,107],[109,101,116,97],[115,111,117,114,99,101],[116,114,97,99,107],[119,98,114]]
def blockNL:List (List UInt8):=[[97,100,100,114,101,115,115],[97,114,116,105,99,108,101],[97,115,105,100,101],[98,108,111,99,107,113,117,111,116,101],[99,101,110,116,101,114],[100,101,116,97,105,108,115],[100,105,118],[100,108],[102,105,101,108,100,115,101,116],[102,105,103,117,114,101],[102,111,111,116,101,114],[102,111,114,109],[104,101,97,100,101,114],[104,114],[108,105],[109,97,105,110],[110,97,118],[111,108],[112],[112,114,101],[115,101,99,116,105,111,110],[116,97,98,108,101],[117,108],[100,100],[100,116],[104,49],[104,50],[104,51],[104,52],[104,53],[104,54]]
def wallL:List (List UInt8):=[[116,97,98,108,101],[98,117,116,116,111,110],[117,108],[111,108],[100,108],[115,118,103],[109,97,116,104],[116,101,109,112,108,97,116,101],[111,98,106,101,99,116],[97,112,112,108,101,116],[109,97,114,113,117,101,101]]
def headNL:List (List UInt8):=[[104,49],[104,50],[104,51],[104,52],[104,53],[104,54]]
def sameL:List (List UInt8):=[[108,105],[97],[111,112,116,105,111,110],[116,114],[110,111,98,114],[98,117,116,116,111,110]]
def voidB (n:List UInt8):Bool:=voidL.contains n
def wallB (n:List UInt8):Bool:=wallL.contains n
def blockNB (n:List UInt8):Bool:=blockNL.contains n
def headNB (n:List UInt8):Bool:=headNL.contains n
def closesB (n o:List UInt8):Bool :=
  if o = [112] then blockNB n
  else if o = [100,100] \/ o = [100,116] then decide (n = [100,100] \/ n = [100,116])
  else if o = [116,100] \/ o = [116,104] then decide (n = [116,100] \/ n = [116,104] \/ n = [116,114])
  else if sameL.contains o then decide (n = o)
  else headNB o && headNB n
structure PartL where
  name:List UInt8
  attrs:List AtL
  kids:List (NdH × Tr)
  tail:List UInt8
deriving DecidableEq
def rootL:PartL:=⟨[],[],[],[]⟩
def textNd (x:List UInt8):NdH × Tr:=(⟨[],[],x⟩,.nil)
def endTextL (p:PartL):PartL:=if p.tail = [] then p else { p with kids:=p.kids ++ [textNd p.tail],tail:=[] }
def PartL.node (p:PartL):NdH × Tr:=(⟨p.name,p.attrs,[]⟩,Tr.of p.kids)
def closeTop:List PartL -> List PartL
  | p :: q :: r=>{ q with kids:=q.kids ++ [(endTextL p).node] } :: r
  | st=>st
def closeN:Nat -> List PartL -> List PartL
  | 0,st=>st
  | n + 1,st=>closeN n (closeTop st)
def findP (is:List UInt8 -> Bool):List PartL -> Option Nat
  | p :: q :: r=>if is p.name = true then some 1 else if wallB p.name = true then none else (findP is (q :: r)).map (· + 1)
  | _=>none
def closeAll (is:List UInt8 -> Bool):Nat -> List PartL -> List PartL
  | 0,st=>st
  | f + 1,st=>match findP is st with
    | none=>st
    | some n=>closeAll is f (closeN n st)
abbrev BsL:=List PartL × Nat
def charsP (x:List UInt8) (s:BsL):BsL:=match s.1 with
  | []=>s
  | p :: r=>if p.tail = [] then (if s.2 = 5000 then s else ({ p with tail:=x } :: r,s.2 + 1)) else ({ p with tail:=p.tail ++ x } :: r,s.2)
def putP (t:TokL) (st:List PartL) (n:Nat):BsL:=match st with
  | []=>(st,n)
  | p :: r=>if voidB t.name = true \/ 30 < st.length then ({ endTextL p with kids:=(endTextL p).kids ++ [(⟨t.name,t.attrs,[]⟩,Tr.nil)] } :: r,n + 1)
    else (⟨t.name,t.attrs,[],[]⟩ :: endTextL p :: r,n + 1)
def startP (t:TokL) (s:BsL):BsL :=
  if s.2 = 5000 then (closeAll (closesB t.name) s.1.length s.1,s.2) else putP t (closeAll (closesB t.name) s.1.length s.1) s.2
def endP (n:List UInt8) (s:BsL):BsL:=match findP (fun o=>o == n) s.1 with
  | none=>s
  | some k=>(closeN k s.1,s.2)
def tokB (s:BsL) (t:TokL):BsL:=if t.kind = 1 then charsP t.text s else if t.kind = 2 then startP t s else if t.kind = 3 then endP t.name s else s
def endTree (st:List PartL):Tr:=match closeN (st.length - 1) st with
  | p :: _=>Tr.of (endTextL p).kids
  | []=>.nil
def buildP (L:List TokL):Tr:=endTree (L.foldl tokB ([rootL],0)).1
theorem closeTop_length (st:List PartL):(closeTop st).length = if 2 <= st.length then st.length - 1 else st.length:=by
 match st with
 | []=>rfl
 | [p]=>rfl
 | p :: q :: r=>simp [closeTop]
theorem closeN_length (n:Nat) (st:List PartL) (h:n < st.length):(closeN n st).length = st.length - n:=by
 induction n generalizing st with
 | zero=>rfl
 | succ n ih =>
  rw [closeN,ih _ (by rw [closeTop_length,if_pos (by omega)];omega),closeTop_length,if_pos (by omega)];omega
theorem findP_lt {is:List UInt8 -> Bool} {st:List PartL} {n:Nat} (h:findP is st = some n):0 < n /\ n < st.length:=by
 induction st generalizing n with
 | nil=>cases h
 | cons p r ih=>cases r with
  | nil=>cases h
  | cons q r =>
   simp only [findP] at h;split at h
   ·injection h with h;subst h;simp
   ·split at h
    ·cases h
    ·obtain ⟨m,h1,rfl⟩:=Option.map_eq_some_iff.1 h;have:=ih h1;simp only [List.length_cons] at this ⊢;omega
theorem closeAll_length (is:List UInt8 -> Bool) (f:Nat) (st:List PartL):(closeAll is f st).length <= st.length /\ (st ≠ [] -> closeAll is f st ≠ []):=by
 induction f generalizing st with
 | zero=>exact ⟨Nat.le_refl _,id⟩
 | succ f ih =>
  rw [closeAll];split
  ·exact ⟨Nat.le_refl _,id⟩
  ·rename_i n h;obtain ⟨h1,h2⟩:=findP_lt h;have h3:=closeN_length n st h2;have h4:=ih (closeN n st);refine ⟨by omega,fun _=>h4.2 (fun e=>by rw [e] at h3;simp only [List.length_nil] at h3;omega)⟩
theorem closeAll_more (is:List UInt8 -> Bool) (f g:Nat) (st:List PartL) (h:st.length <= f + 1) (hg:f <= g):closeAll is g st = closeAll is f st:=by
 induction f generalizing g st with
 | zero =>
  have hn:findP is st = none:=by
   match st,h with
   | [],_=>rfl
   | [p],_=>rfl
  cases g with
  | zero=>rfl
  | succ g=>simp only [closeAll,hn]
 | succ f ih =>
  obtain ⟨g,rfl⟩:∃ g',g = g' + 1:=⟨g - 1,by omega⟩
  rw [closeAll,closeAll];cases hn:findP is st with
  | none=>rfl
  | some n =>
   obtain ⟨h1,h2⟩:=findP_lt hn;exact ih g _ (by rw [closeN_length n st h2];omega) (by omega)
theorem closeAll_step {is:List UInt8 -> Bool} {st:List PartL} {n:Nat} (h:findP is st = some n):closeAll is st.length st = closeAll is (closeN n st).length (closeN n st):=by
 obtain ⟨h1,h2⟩:=findP_lt h;have h3:=closeN_length n st h2;obtain ⟨k,hk⟩:∃ k,st.length = k + 1:=⟨st.length - 1,by omega⟩
 rw [hk,closeAll,h];exact closeAll_more is _ _ _ (by omega) (by omega)
theorem closeAll_none {is:List UInt8 -> Bool} {st:List PartL} (h:findP is st = none):closeAll is st.length st = st:=by
 cases hl:st.length with
 | zero=>rfl
 | succ k=>rw [closeAll,h]
theorem isWall_any (n:ByteArray) (w:World):Calls Tryz.prog 87 #[.string n] w fun e w'=>e = .returned (.bool (wallL.contains n.data.toList)) /\ w = w':=by
 cases hk:wallL.contains n.data.toList with
 | true =>
  have hc:n.data.toList = [116,97,98,108,101] \/ n.data.toList = [98,117,116,116,111,110] \/ n.data.toList = [117,108] \/ n.data.toList = [111,108] \/ n.data.toList = [100,108] \/ n.data.toList = [115,118,103] \/ n.data.toList = [109,97,116,104] \/ n.data.toList = [116,101,109,112,108,97,116,101] \/ n.data.toList = [111,98,106,101,99,116] \/ n.data.toList = [97,112,112,108,101,116] \/ n.data.toList = [109,97,114,113,117,101,101]:=by simpa [wallL] using hk
  clear hk;rcases hc with h | h | h | h | h | h | h | h | h | h | h
  iterate 11
   ·obtain rfl:=ext_lit h;clear h;go_enter Tryz.func87,Tryz.ntmps87;go_wp2_with fail;go_ret;exact ⟨rfl,rfl⟩
 | false =>
  have hc:n.data.toList ≠ [116,97,98,108,101] /\ n.data.toList ≠ [98,117,116,116,111,110] /\ n.data.toList ≠ [117,108] /\ n.data.toList ≠ [111,108] /\ n.data.toList ≠ [100,108] /\ n.data.toList ≠ [115,118,103] /\ n.data.toList ≠ [109,97,116,104] /\ n.data.toList ≠ [116,101,109,112,108,97,116,101] /\ n.data.toList ≠ [111,98,106,101,99,116] /\ n.data.toList ≠ [97,112,112,108,101,116] /\ n.data.toList ≠ [109,97,114,113,117,101,101]:=by simpa [wallL] using hk
  clear hk;obtain ⟨tn0,tn1,tn2,tn3,tn4,tn5,tn6,tn7,tn8,tn9,tn10⟩:=hc;have t0:=nb_lit tn0;have t1:=nb_lit tn1;have t2:=nb_lit tn2;have t3:=nb_lit tn3;have t4:=nb_lit tn4;have t5:=nb_lit tn5;have t6:=nb_lit tn6;have t7:=nb_lit tn7;have t8:=nb_lit tn8;have t9:=nb_lit tn9;have t10:=nb_lit tn10;clear tn0 tn1 tn2 tn3 tn4 tn5 tn6 tn7 tn8 tn9 tn10;go_enter Tryz.func87,Tryz.ntmps87;go_wp2_with fail;go_ret;exact ⟨rfl,rfl⟩
theorem isHeading_any (n:ByteArray) (w:World):Calls Tryz.prog 80 #[.string n] w fun e w'=>e = .returned (.bool (headNL.contains n.data.toList)) /\ w = w':=by
 cases hk:headNL.contains n.data.toList with
 | true =>
  have hc:n.data.toList = [104,49] \/ n.data.toList = [104,50] \/ n.data.toList = [104,51] \/ n.data.toList = [104,52] \/ n.data.toList = [104,53] \/ n.data.toList = [104,54]:=by simpa [headNL] using hk
  clear hk;rcases hc with h | h | h | h | h | h
  iterate 6
   ·obtain rfl:=ext_lit h;clear h;go_enter Tryz.func80,Tryz.ntmps80;go_wp2_with fail;go_ret;exact ⟨rfl,rfl⟩
 | false =>
  have hc:n.data.toList ≠ [104,49] /\ n.data.toList ≠ [104,50] /\ n.data.toList ≠ [104,51] /\ n.data.toList ≠ [104,52] /\ n.data.toList ≠ [104,53] /\ n.data.toList ≠ [104,54]:=by simpa [headNL] using hk
  clear hk;obtain ⟨tn0,tn1,tn2,tn3,tn4,tn5⟩:=hc;have t0:=nb_lit tn0;have t1:=nb_lit tn1;have t2:=nb_lit tn2;have t3:=nb_lit tn3;have t4:=nb_lit tn4;have t5:=nb_lit tn5;clear tn0 tn1 tn2 tn3 tn4 tn5;go_enter Tryz.func80,Tryz.ntmps80;go_wp2_with fail;go_ret;exact ⟨rfl,rfl⟩
theorem void14_any (n:ByteArray) (w:World):Calls Tryz.prog 31 #[.string n] w fun e w'=>e = .returned (.bool (voidL.contains n.data.toList)) /\ w = w':=by
 cases hk:voidL.contains n.data.toList with
 | true =>
  have hc:n.data.toList = [97,114,101,97] \/ n.data.toList = [98,97,115,101] \/ n.data.toList = [98,114] \/ n.data.toList = [99,111,108] \/ n.data.toList = [101,109,98,101,100] \/ n.data.toList = [104,114] \/ n.data.toList = [105,109,103] \/ n.data.toList = [105,110,112,117,116] \/ n.data.toList = [108,105,110,107] \/ n.data.toList = [109,101,116,97] \/ n.data.toList = [115,111,117,114,99,101] \/ n.data.toList = [116,114,97,99,107] \/ n.data.toList = [119,98,114]:=by simpa [voidL] using hk
  clear hk;rcases hc with h | h | h | h | h | h | h | h | h | h | h | h | h
  iterate 13
   ·obtain rfl:=ext_lit h;clear h;go_enter Tryz.func31,Tryz.ntmps31;go_wp2_with fail;go_ret;exact ⟨rfl,rfl⟩
 | false =>
  have hc:n.data.toList ≠ [97,114,101,97] /\ n.data.toList ≠ [98,97,115,101] /\ n.data.toList ≠ [98,114] /\ n.data.toList ≠ [99,111,108] /\ n.data.toList ≠ [101,109,98,101,100] /\ n.data.toList ≠ [104,114] /\ n.data.toList ≠ [105,109,103] /\ n.data.toList ≠ [105,110,112,117,116] /\ n.data.toList ≠ [108,105,110,107] /\ n.data.toList ≠ [109,101,116,97] /\ n.data.toList ≠ [115,111,117,114,99,101] /\ n.data.toList ≠ [116,114,97,99,107] /\ n.data.toList ≠ [119,98,114]:=by simpa [voidL] using hk
  clear hk;obtain ⟨tn0,tn1,tn2,tn3,tn4,tn5,tn6,tn7,tn8,tn9,tn10,tn11,tn12⟩:=hc;have t0:=nb_lit tn0;have t1:=nb_lit tn1;have t2:=nb_lit tn2;have t3:=nb_lit tn3;have t4:=nb_lit tn4;have t5:=nb_lit tn5;have t6:=nb_lit tn6;have t7:=nb_lit tn7;have t8:=nb_lit tn8;have t9:=nb_lit tn9;have t10:=nb_lit tn10;have t11:=nb_lit tn11;have t12:=nb_lit tn12;clear tn0 tn1 tn2 tn3 tn4 tn5 tn6 tn7 tn8 tn9 tn10 tn11 tn12;go_enter Tryz.func31,Tryz.ntmps31;go_wp2_with fail;go_ret;exact ⟨rfl,rfl⟩
theorem isBlock_any (n:ByteArray) (w:World):Calls Tryz.prog 79 #[.string n] w fun e w'=>e = .returned (.bool (blockNL.contains n.data.toList)) /\ w = w':=by
 have hh:∀ bb:Bool,headNL.contains n.data.toList = bb -> Calls Tryz.prog 80 #[.string n] w fun e w'=>e = .returned (.bool bb) /\ w = w':=fun bb e=>by rw [<- e];exact isHeading_any n w
 cases hk:blockNL.contains n.data.toList with
 | true =>
  have hc:n.data.toList = [97,100,100,114,101,115,115] \/ n.data.toList = [97,114,116,105,99,108,101] \/ n.data.toList = [97,115,105,100,101] \/ n.data.toList = [98,108,111,99,107,113,117,111,116,101] \/ n.data.toList = [99,101,110,116,101,114] \/ n.data.toList = [100,101,116,97,105,108,115] \/ n.data.toList = [100,105,118] \/ n.data.toList = [100,108] \/ n.data.toList = [102,105,101,108,100,115,101,116] \/ n.data.toList = [102,105,103,117,114,101] \/ n.data.toList = [102,111,111,116,101,114] \/ n.data.toList = [102,111,114,109] \/ n.data.toList = [104,101,97,100,101,114] \/ n.data.toList = [104,114] \/ n.data.toList = [108,105] \/ n.data.toList = [109,97,105,110] \/ n.data.toList = [110,97,118] \/ n.data.toList = [111,108] \/ n.data.toList = [112] \/ n.data.toList = [112,114,101] \/ n.data.toList = [115,101,99,116,105,111,110] \/ n.data.toList = [116,97,98,108,101] \/ n.data.toList = [117,108] \/ n.data.toList = [100,100] \/ n.data.toList = [100,116] \/ n.data.toList = [104,49] \/ n.data.toList = [104,50] \/ n.data.toList = [104,51] \/ n.data.toList = [104,52] \/ n.data.toList = [104,53] \/ n.data.toList = [104,54]:=by simpa [blockNL] using hk
  clear hk;rcases hc with h | h | h | h | h | h | h | h | h | h | h | h | h | h | h | h | h | h | h | h | h | h | h | h | h | h | h | h | h | h | h
  iterate 25
   ·obtain rfl:=ext_lit h;clear h hh;go_enter Tryz.func79,Tryz.ntmps79;go_wp2_with fail;go_ret;exact ⟨rfl,rfl⟩
  iterate 6
   ·obtain rfl:=ext_lit h;have HH:=hide (hh true (by decide));clear h hh;go_enter Tryz.func79,Tryz.ntmps79;go_wp2_with fail;refine HH.out.mono ?_;rintro e w1 ⟨rfl,rfl⟩;go_wp2_with fail;go_ret;exact ⟨rfl,rfl⟩
 | false =>
  have hc:n.data.toList ≠ [97,100,100,114,101,115,115] /\ n.data.toList ≠ [97,114,116,105,99,108,101] /\ n.data.toList ≠ [97,115,105,100,101] /\ n.data.toList ≠ [98,108,111,99,107,113,117,111,116,101] /\ n.data.toList ≠ [99,101,110,116,101,114] /\ n.data.toList ≠ [100,101,116,97,105,108,115] /\ n.data.toList ≠ [100,105,118] /\ n.data.toList ≠ [100,108] /\ n.data.toList ≠ [102,105,101,108,100,115,101,116] /\ n.data.toList ≠ [102,105,103,117,114,101] /\ n.data.toList ≠ [102,111,111,116,101,114] /\ n.data.toList ≠ [102,111,114,109] /\ n.data.toList ≠ [104,101,97,100,101,114] /\ n.data.toList ≠ [104,114] /\ n.data.toList ≠ [108,105] /\ n.data.toList ≠ [109,97,105,110] /\ n.data.toList ≠ [110,97,118] /\ n.data.toList ≠ [111,108] /\ n.data.toList ≠ [112] /\ n.data.toList ≠ [112,114,101] /\ n.data.toList ≠ [115,101,99,116,105,111,110] /\ n.data.toList ≠ [116,97,98,108,101] /\ n.data.toList ≠ [117,108] /\ n.data.toList ≠ [100,100] /\ n.data.toList ≠ [100,116] /\ n.data.toList ≠ [104,49] /\ n.data.toList ≠ [104,50] /\ n.data.toList ≠ [104,51] /\ n.data.toList ≠ [104,52] /\ n.data.toList ≠ [104,53] /\ n.data.toList ≠ [104,54]:=by simpa [blockNL] using hk
  obtain ⟨tn0,tn1,tn2,tn3,tn4,tn5,tn6,tn7,tn8,tn9,tn10,tn11,tn12,tn13,tn14,tn15,tn16,tn17,tn18,tn19,tn20,tn21,tn22,tn23,tn24,tn25,tn26,tn27,tn28,tn29,tn30⟩:=hc
  have HH:=hide (hh false (by
   have:¬ headNL.contains n.data.toList = true:=by
    simp only [headNL,List.contains_cons,List.contains_nil,Bool.or_false,Bool.or_eq_true,beq_iff_eq,not_or];exact ⟨tn25,tn26,tn27,tn28,tn29,tn30⟩
   simpa using this))
  clear hk hh;have t0:=nb_lit tn0;have t1:=nb_lit tn1;have t2:=nb_lit tn2;have t3:=nb_lit tn3;have t4:=nb_lit tn4;have t5:=nb_lit tn5;have t6:=nb_lit tn6;have t7:=nb_lit tn7;have t8:=nb_lit tn8;have t9:=nb_lit tn9;have t10:=nb_lit tn10;have t11:=nb_lit tn11;have t12:=nb_lit tn12;have t13:=nb_lit tn13;have t14:=nb_lit tn14;have t15:=nb_lit tn15;have t16:=nb_lit tn16;have t17:=nb_lit tn17;have t18:=nb_lit tn18;have t19:=nb_lit tn19;have t20:=nb_lit tn20;have t21:=nb_lit tn21;have t22:=nb_lit tn22;have t23:=nb_lit tn23;have t24:=nb_lit tn24;clear tn0 tn1 tn2 tn3 tn4 tn5 tn6 tn7 tn8 tn9 tn10 tn11 tn12 tn13 tn14 tn15 tn16 tn17 tn18 tn19 tn20 tn21 tn22 tn23 tn24;go_enter Tryz.func79,Tryz.ntmps79;go_wp2_with fail;refine HH.out.mono ?_;rintro e w1 ⟨rfl,rfl⟩;go_wp2_with fail;go_ret;exact ⟨rfl,rfl⟩
theorem closes14_pure (n o:List UInt8) (h:o ≠ [112] /\ o ≠ [100,100] /\ o ≠ [100,116] /\ o ≠ [116,100] /\ o ≠ [116,104] /\ o ≠ [108,105] /\ o ≠ [97] /\ o ≠ [111,112,116,105,111,110] /\ o ≠ [116,114] /\ o ≠ [110,111,98,114] /\ o ≠ [98,117,116,116,111,110]):closesB n o = (headNB o && headNB n):=by
 unfold closesB;rw [if_neg h.1,if_neg (fun e=>e.elim h.2.1 h.2.2.1),if_neg (fun e=>e.elim h.2.2.2.1 h.2.2.2.2.1),if_neg];have h2:=h.2.2.2.2.2;simp only [sameL,List.contains_cons,List.contains_nil,Bool.or_false,Bool.or_eq_true,beq_iff_eq,not_or];exact h2
theorem closes14_any (n o:ByteArray) (w:World):Calls Tryz.prog 32 #[.string n,.string o] w fun e w'=>e = .returned (.bool (closesB n.data.toList o.data.toList)) /\ w = w':=by
 by_cases h0:o.data.toList = [112]
 ·obtain rfl:=ext_lit h0;have hb:=isBlock_any n w;have he:closesB n.data.toList (⟨#[112]⟩:ByteArray).data.toList = blockNL.contains n.data.toList:=rfl;rw [he];obtain ⟨bb,hbb⟩:∃ bb,bb = blockNL.contains n.data.toList:=⟨_,rfl⟩
  rw [<- hbb] at hb ⊢;have HB:=hide hb;clear h0 hb he hbb;go_enter Tryz.func32,Tryz.ntmps32;go_wp2_with fail;refine HB.out.mono ?_;rintro e w1 ⟨rfl,rfl⟩;go_wp2_with fail;go_ret;exact ⟨rfl,rfl⟩
 by_cases h1:o.data.toList = [100,100]
 ·obtain rfl:=ext_lit h1;clear h0 h1
  by_cases m:n.data.toList = [100,100]
  ·obtain rfl:=ext_lit m;clear m;rw [show closesB (⟨#[100,100]⟩:ByteArray).data.toList (⟨#[100,100]⟩:ByteArray).data.toList = true by decide];go_enter Tryz.func32,Tryz.ntmps32;go_wp2_with fail;go_ret;exact ⟨rfl,rfl⟩
  have m0:=m;clear m
  by_cases m:n.data.toList = [100,116]
  ·obtain rfl:=ext_lit m;clear m;rw [show closesB (⟨#[100,116]⟩:ByteArray).data.toList (⟨#[100,100]⟩:ByteArray).data.toList = true by decide];go_enter Tryz.func32,Tryz.ntmps32;go_wp2_with fail;go_ret;exact ⟨rfl,rfl⟩
  have m1:=m;clear m;have t0:=nb_lit m0;have t1:=nb_lit m1
  have HE:closesB n.data.toList (⟨#[100,100]⟩:ByteArray).data.toList = false:=by
   show decide (n.data.toList = [100,100] \/ n.data.toList = [100,116]) = false
   exact decide_eq_false (by simp only [not_or];exact ⟨m0,m1⟩)
  clear m0 m1;rw [HE];clear HE;go_enter Tryz.func32,Tryz.ntmps32;go_wp2_with fail;go_ret;exact ⟨rfl,rfl⟩
 by_cases h2:o.data.toList = [100,116]
 ·obtain rfl:=ext_lit h2;clear h0 h1 h2
  by_cases m:n.data.toList = [100,100]
  ·obtain rfl:=ext_lit m;clear m;rw [show closesB (⟨#[100,100]⟩:ByteArray).data.toList (⟨#[100,116]⟩:ByteArray).data.toList = true by decide];go_enter Tryz.func32,Tryz.ntmps32;go_wp2_with fail;go_ret;exact ⟨rfl,rfl⟩
  have m0:=m;clear m
  by_cases m:n.data.toList = [100,116]
  ·obtain rfl:=ext_lit m;clear m;rw [show closesB (⟨#[100,116]⟩:ByteArray).data.toList (⟨#[100,116]⟩:ByteArray).data.toList = true by decide];go_enter Tryz.func32,Tryz.ntmps32;go_wp2_with fail;go_ret;exact ⟨rfl,rfl⟩
  have m1:=m;clear m;have t0:=nb_lit m0;have t1:=nb_lit m1
  have HE:closesB n.data.toList (⟨#[100,116]⟩:ByteArray).data.toList = false:=by
   show decide (n.data.toList = [100,100] \/ n.data.toList = [100,116]) = false
   exact decide_eq_false (by simp only [not_or];exact ⟨m0,m1⟩)
  clear m0 m1;rw [HE];clear HE;go_enter Tryz.func32,Tryz.ntmps32;go_wp2_with fail;go_ret;exact ⟨rfl,rfl⟩
 by_cases h3:o.data.toList = [116,100]
 ·obtain rfl:=ext_lit h3;clear h0 h1 h2 h3
  by_cases m:n.data.toList = [116,100]
  ·obtain rfl:=ext_lit m;clear m;rw [show closesB (⟨#[116,100]⟩:ByteArray).data.toList (⟨#[116,100]⟩:ByteArray).data.toList = true by decide];go_enter Tryz.func32,Tryz.ntmps32;go_wp2_with fail;go_ret;exact ⟨rfl,rfl⟩
  have m0:=m;clear m
  by_cases m:n.data.toList = [116,104]
  ·obtain rfl:=ext_lit m;clear m;rw [show closesB (⟨#[116,104]⟩:ByteArray).data.toList (⟨#[116,100]⟩:ByteArray).data.toList = true by decide];go_enter Tryz.func32,Tryz.ntmps32;go_wp2_with fail;go_ret;exact ⟨rfl,rfl⟩
  have m1:=m;clear m
  by_cases m:n.data.toList = [116,114]
  ·obtain rfl:=ext_lit m;clear m;rw [show closesB (⟨#[116,114]⟩:ByteArray).data.toList (⟨#[116,100]⟩:ByteArray).data.toList = true by decide];go_enter Tryz.func32,Tryz.ntmps32;go_wp2_with fail;go_ret;exact ⟨rfl,rfl⟩
  have m2:=m;clear m;have t0:=nb_lit m0;have t1:=nb_lit m1;have t2:=nb_lit m2
  have HE:closesB n.data.toList (⟨#[116,100]⟩:ByteArray).data.toList = false:=by
   show decide (n.data.toList = [116,100] \/ n.data.toList = [116,104] \/ n.data.toList = [116,114]) = false
   exact decide_eq_false (by simp only [not_or];exact ⟨m0,m1,m2⟩)
  clear m0 m1 m2;rw [HE];clear HE;go_enter Tryz.func32,Tryz.ntmps32;go_wp2_with fail;go_ret;exact ⟨rfl,rfl⟩
 by_cases h4:o.data.toList = [116,104]
 ·obtain rfl:=ext_lit h4;clear h0 h1 h2 h3 h4
  by_cases m:n.data.toList = [116,100]
  ·obtain rfl:=ext_lit m;clear m;rw [show closesB (⟨#[116,100]⟩:ByteArray).data.toList (⟨#[116,104]⟩:ByteArray).data.toList = true by decide];go_enter Tryz.func32,Tryz.ntmps32;go_wp2_with fail;go_ret;exact ⟨rfl,rfl⟩
  have m0:=m;clear m
  by_cases m:n.data.toList = [116,104]
  ·obtain rfl:=ext_lit m;clear m;rw [show closesB (⟨#[116,104]⟩:ByteArray).data.toList (⟨#[116,104]⟩:ByteArray).data.toList = true by decide];go_enter Tryz.func32,Tryz.ntmps32;go_wp2_with fail;go_ret;exact ⟨rfl,rfl⟩
  have m1:=m;clear m
  by_cases m:n.data.toList = [116,114]
  ·obtain rfl:=ext_lit m;clear m;rw [show closesB (⟨#[116,114]⟩:ByteArray).data.toList (⟨#[116,104]⟩:ByteArray).data.toList = true by decide];go_enter Tryz.func32,Tryz.ntmps32;go_wp2_with fail;go_ret;exact ⟨rfl,rfl⟩
  have m2:=m;clear m;have t0:=nb_lit m0;have t1:=nb_lit m1;have t2:=nb_lit m2
  have HE:closesB n.data.toList (⟨#[116,104]⟩:ByteArray).data.toList = false:=by
   show decide (n.data.toList = [116,100] \/ n.data.toList = [116,104] \/ n.data.toList = [116,114]) = false
   exact decide_eq_false (by simp only [not_or];exact ⟨m0,m1,m2⟩)
  clear m0 m1 m2;rw [HE];clear HE;go_enter Tryz.func32,Tryz.ntmps32;go_wp2_with fail;go_ret;exact ⟨rfl,rfl⟩
 by_cases h5:o.data.toList = [108,105]
 ·obtain rfl:=ext_lit h5;clear h0 h1 h2 h3 h4 h5
  by_cases m:n.data.toList = [108,105]
  ·obtain rfl:=ext_lit m;clear m;rw [show closesB (⟨#[108,105]⟩:ByteArray).data.toList (⟨#[108,105]⟩:ByteArray).data.toList = true by decide];go_enter Tryz.func32,Tryz.ntmps32;go_wp2_with fail;go_ret;exact ⟨rfl,rfl⟩
  have m0:=m;clear m;have t0:=nb_lit m0
  have HE:closesB n.data.toList (⟨#[108,105]⟩:ByteArray).data.toList = false:=by
   show decide (n.data.toList = [108,105]) = false
   exact decide_eq_false m0
  clear m0;rw [HE];clear HE;go_enter Tryz.func32,Tryz.ntmps32;go_wp2_with fail;go_ret;exact ⟨rfl,rfl⟩
 by_cases h6:o.data.toList = [97]
 ·obtain rfl:=ext_lit h6;clear h0 h1 h2 h3 h4 h5 h6
  by_cases m:n.data.toList = [97]
  ·obtain rfl:=ext_lit m;clear m;rw [show closesB (⟨#[97]⟩:ByteArray).data.toList (⟨#[97]⟩:ByteArray).data.toList = true by decide];go_enter Tryz.func32,Tryz.ntmps32;go_wp2_with fail;go_ret;exact ⟨rfl,rfl⟩
  have m0:=m;clear m;have t0:=nb_lit m0
  have HE:closesB n.data.toList (⟨#[97]⟩:ByteArray).data.toList = false:=by
   show decide (n.data.toList = [97]) = false
   exact decide_eq_false m0
  clear m0;rw [HE];clear HE;go_enter Tryz.func32,Tryz.ntmps32;go_wp2_with fail;go_ret;exact ⟨rfl,rfl⟩
 by_cases h7:o.data.toList = [111,112,116,105,111,110]
 ·obtain rfl:=ext_lit h7;clear h0 h1 h2 h3 h4 h5 h6 h7
  by_cases m:n.data.toList = [111,112,116,105,111,110]
  ·obtain rfl:=ext_lit m;clear m;rw [show closesB (⟨#[111,112,116,105,111,110]⟩:ByteArray).data.toList (⟨#[111,112,116,105,111,110]⟩:ByteArray).data.toList = true by decide];go_enter Tryz.func32,Tryz.ntmps32;go_wp2_with fail;go_ret;exact ⟨rfl,rfl⟩
  have m0:=m;clear m;have t0:=nb_lit m0
  have HE:closesB n.data.toList (⟨#[111,112,116,105,111,110]⟩:ByteArray).data.toList = false:=by
   show decide (n.data.toList = [111,112,116,105,111,110]) = false
   exact decide_eq_false m0
  clear m0;rw [HE];clear HE;go_enter Tryz.func32,Tryz.ntmps32;go_wp2_with fail;go_ret;exact ⟨rfl,rfl⟩
 by_cases h8:o.data.toList = [116,114]
 ·obtain rfl:=ext_lit h8;clear h0 h1 h2 h3 h4 h5 h6 h7 h8
  by_cases m:n.data.toList = [116,114]
  ·obtain rfl:=ext_lit m;clear m;rw [show closesB (⟨#[116,114]⟩:ByteArray).data.toList (⟨#[116,114]⟩:ByteArray).data.toList = true by decide];go_enter Tryz.func32,Tryz.ntmps32;go_wp2_with fail;go_ret;exact ⟨rfl,rfl⟩
  have m0:=m;clear m;have t0:=nb_lit m0
  have HE:closesB n.data.toList (⟨#[116,114]⟩:ByteArray).data.toList = false:=by
   show decide (n.data.toList = [116,114]) = false
   exact decide_eq_false m0
  clear m0;rw [HE];clear HE;go_enter Tryz.func32,Tryz.ntmps32;go_wp2_with fail;go_ret;exact ⟨rfl,rfl⟩
 by_cases h9:o.data.toList = [110,111,98,114]
 ·obtain rfl:=ext_lit h9;clear h0 h1 h2 h3 h4 h5 h6 h7 h8 h9
  by_cases m:n.data.toList = [110,111,98,114]
  ·obtain rfl:=ext_lit m;clear m;rw [show closesB (⟨#[110,111,98,114]⟩:ByteArray).data.toList (⟨#[110,111,98,114]⟩:ByteArray).data.toList = true by decide];go_enter Tryz.func32,Tryz.ntmps32;go_wp2_with fail;go_ret;exact ⟨rfl,rfl⟩
  have m0:=m;clear m;have t0:=nb_lit m0
  have HE:closesB n.data.toList (⟨#[110,111,98,114]⟩:ByteArray).data.toList = false:=by
   show decide (n.data.toList = [110,111,98,114]) = false
   exact decide_eq_false m0
  clear m0;rw [HE];clear HE;go_enter Tryz.func32,Tryz.ntmps32;go_wp2_with fail;go_ret;exact ⟨rfl,rfl⟩
 by_cases h10:o.data.toList = [98,117,116,116,111,110]
 ·obtain rfl:=ext_lit h10;clear h0 h1 h2 h3 h4 h5 h6 h7 h8 h9 h10
  by_cases m:n.data.toList = [98,117,116,116,111,110]
  ·obtain rfl:=ext_lit m;clear m;rw [show closesB (⟨#[98,117,116,116,111,110]⟩:ByteArray).data.toList (⟨#[98,117,116,116,111,110]⟩:ByteArray).data.toList = true by decide];go_enter Tryz.func32,Tryz.ntmps32;go_wp2_with fail;go_ret;exact ⟨rfl,rfl⟩
  have m0:=m;clear m;have t0:=nb_lit m0
  have HE:closesB n.data.toList (⟨#[98,117,116,116,111,110]⟩:ByteArray).data.toList = false:=by
   show decide (n.data.toList = [98,117,116,116,111,110]) = false
   exact decide_eq_false m0
  clear m0;rw [HE];clear HE;go_enter Tryz.func32,Tryz.ntmps32;go_wp2_with fail;go_ret;exact ⟨rfl,rfl⟩
 rw [closes14_pure n.data.toList o.data.toList ⟨h0,h1,h2,h3,h4,h5,h6,h7,h8,h9,h10⟩];have t0:=nb_lit h0;have t1:=nb_lit h1;have t2:=nb_lit h2;have t3:=nb_lit h3;have t4:=nb_lit h4;have t5:=nb_lit h5;have t6:=nb_lit h6;have t7:=nb_lit h7;have t8:=nb_lit h8;have t9:=nb_lit h9;have t10:=nb_lit h10;clear h0 h1 h2 h3 h4 h5 h6 h7 h8 h9 h10;have hh:∀ (s:ByteArray) (bb:Bool),headNB s.data.toList = bb -> Calls Tryz.prog 80 #[.string s] w fun e w'=>e = .returned (.bool bb) /\ w = w':=fun s bb e=>by rw [<- e];exact isHeading_any s w
 cases ho:headNB o.data.toList with
 | false =>
  have HO:=hide (hh o false ho);clear hh ho;go_enter Tryz.func32,Tryz.ntmps32;go_wp2_with fail;refine HO.out.mono ?_;rintro e w1 ⟨rfl,rfl⟩;go_wp2_with fail;go_ret;exact ⟨rfl,rfl⟩
 | true =>
  have HO:=hide (hh o true ho);obtain ⟨bb,hbb⟩:∃ bb,bb = headNB n.data.toList:=⟨_,rfl⟩
  have HN:=hide (hh n bb hbb.symm);rw [<- hbb];clear hh ho hbb;go_enter Tryz.func32,Tryz.ntmps32;go_wp2_with fail;refine HO.out.mono ?_;rintro e w1 ⟨rfl,rfl⟩;go_wp2_with fail;refine HN.out.mono ?_;rintro e w1 ⟨rfl,rfl⟩;go_wp2_with fail;go_ret;exact ⟨rfl,rfl⟩
def startW (h:NdH):List UInt8:=60 :: (h.name ++ (attrsW (escQ true) h.attrs ++ [62]))
def endW (h:NdH):List UInt8:=60 :: 47 :: (h.name ++ [62])
def rawK:Tr -> List UInt8
  | .nil=>[]
  | .cons h _ R=>(if h.name = [] then h.text else []) ++ rawK R
def rawB (n:List UInt8):Bool:=rawL.contains n
def serBg (s:List UInt8) (h:NdH) (K:Tr):List UInt8 :=
  if h.name = [] then s ++ escQ false h.text else if voidB h.name = true then s ++ startW h else if rawB h.name = true then s ++ startW h ++ rawK K else s ++ startW h
def serEn (s:List UInt8) (h:NdH):List UInt8:=if h.name = [] then s else if voidB h.name = true then s else s ++ endW h
def serDv (h:NdH):Bool:=elemB h && (!voidB h.name && !rawB h.name)
def writeT:Tr -> List UInt8
  | .nil=>[]
  | .cons h K R=>(if h.name = [] then escQ false h.text else if voidB h.name = true then startW h else startW h ++ ((if rawB h.name = true then rawK K else writeT K) ++ endW h)) ++ writeT R
theorem vis_write (T:Tr) (s:List UInt8):vis serBg serEn serDv T s = s ++ writeT T:=by
 induction T generalizing s with
 | nil=>simp [vis,writeT]
 | cons h K R ihk ihr =>
  simp only [vis,writeT]
  by_cases hn:h.name = []
  ·have e:serDv h = false:=by simp [serDv,elemB,hn]
   simp [serBg,serEn,hn,e,ihr]
  ·have e0:elemB h = true:=by simp [elemB,hn]
   by_cases hv:voidB h.name = true
   ·have e:serDv h = false:=by simp [serDv,hv]
    simp [serBg,serEn,hn,hv,e,ihr]
   ·by_cases hr:rawB h.name = true
    ·have e:serDv h = false:=by simp [serDv,hr]
     simp [serBg,serEn,hn,hv,hr,e,ihr]
    ·have e:serDv h = true:=by simp [serDv,e0,hv,hr]
     simp [serBg,serEn,hn,hv,hr,e,ihk,ihr]
theorem serBg_le (s:List UInt8) (h:NdH) (K:Tr):s.length <= (serBg s h K).length:=by
 unfold serBg;repeat' split
 all_goals simp only [List.length_append];omega
theorem serEn_le (s:List UInt8) (h:NdH):s.length <= (serEn s h).length:=by
 unfold serEn;repeat' split
 all_goals first | exact Nat.le_refl _ | (simp only [List.length_append];omega)
def smallH (h:NdH):Bool:=fitT ⟨0,h.name,h.attrs,h.text⟩
theorem small_tok {h:NdH} (hs:smallH h = true):fitT ⟨0,h.name,h.attrs,[]⟩ = true:=by
 unfold smallH fitT at *;simp only [Bool.and_eq_true,decide_eq_true_eq] at *;exact ⟨hs.1,Nat.zero_le _,hs.2.2⟩
def wideH (h:NdH):Bool:=wfitT ⟨0,h.name,h.attrs,h.text⟩
theorem wide_tok {h:NdH} (hs:wideH h = true):wfitT ⟨0,h.name,h.attrs,[]⟩ = true:=by
 unfold wideH wfitT at *;simp only [Bool.and_eq_true,decide_eq_true_eq] at *;exact ⟨hs.1,Nat.zero_le _,hs.2.2⟩
theorem small_wide {h:NdH} (hs:smallH h = true):wideH h = true:=fitT_wide hs
theorem small_wides {T:Tr} (ha:T.all smallH = true):T.all wideH = true:=by
 induction T with
 | nil=>rfl
 | cons h K R ihk ihr =>
  simp only [Tr.all,Bool.and_eq_true] at ha ⊢;exact ⟨small_wide ha.1,ihk ha.2.1,ihr ha.2.2⟩
theorem tok_one (w:World) (k:Int) (h:NdH) (u:Value) (hA:AttrsIn w u h.attrs) (n:Nat) (hn:w.heap.size = n) :
  ToksIn (w.alloc (.cells #[.int .i64 k,.string (str h.name),u,.string ⟨#[]⟩] 51)) (.slice (some ⟨n,0,none⟩) 1 1) [(k,⟨0,h.name,h.attrs,[]⟩)]:=by
 subst hn;obtain ⟨c0,c1,c2,c3⟩:=tok_row w (.int .i64 k) (.string (str h.name)) u (.string ⟨#[]⟩);refine .inr ⟨⟨w.heap.size,0,none⟩,1,rfl,Nat.le_refl _,by decide,fun j f hj=>?_⟩
 match j,hj with
 | 0,hj =>
  simp only [List.getElem?_cons_zero,Option.some.injEq] at hj;subst hj;exact ⟨c0,c1,c3,u,c2,hA.kept (below_one w _)⟩
 | j + 1,hj=>simp at hj
theorem tag_any (k:Int) (h:NdH) (w:World) (hk:k = 2 \/ k = 3) (A1 A2:Option Addr) (n2 c1 c2:Nat) (hA:AttrsIn w (.slice A1 h.attrs.length c1) h.attrs) (hs:wideH h = true) (hE:EnvX w) :
  Calls Tryz.prog 98 #[.int .i64 k,.agg #[.string (str h.name),.slice A1 h.attrs.length c1,.string (str h.text),.slice A2 n2 c2]] w fun e w'=>e = .returned (.string (str (if k = 2 then startW h else endW h))) /\ Below w.heap.size w w':=by
 have hbk:=below_one w (Obj.cells #[.string (str h.name),.slice A1 h.attrs.length c1,.string (str h.text),.slice A2 n2 c2] 33);have hti:=tok_one (w.alloc (Obj.cells #[.string (str h.name),.slice A1 h.attrs.length c1,.string (str h.text),.slice A2 n2 c2] 33)) k h _ (hA.kept hbk) (w.heap.size + 1) (World.size_alloc _ _);have hb2:=bl_one hbk (below_one _ (Obj.cells #[.int .i64 k,.string (str h.name),.slice A1 h.attrs.length c1,.string ⟨#[]⟩] 51));have HW:=write_wide13 _ _ _ hti (by simp) (fun p hp=>by rw [List.mem_singleton.1 hp];exact wide_tok hs) (hE.kept hb2)
 have he:writeG [(k,(⟨0,h.name,h.attrs,[]⟩:TokL))] = if k = 2 then startW h else endW h:=by
  have e1:writeG [(k,(⟨0,h.name,h.attrs,[]⟩:TokL))] = tokG (k,⟨0,h.name,h.attrs,[]⟩):=by simp [writeG]
  rw [e1];rcases hk with rfl | rfl
  ·rw [if_pos rfl];exact tokG_start rfl
  ·rw [if_neg (by decide)];exact tokG_end rfl
 rw [he] at HW;obtain ⟨R,hR⟩:∃ R,R = str (if k = 2 then startW h else endW h):=⟨_,rfl⟩
 rw [<- hR] at HW ⊢;replace HW:=hide HW;have HB2:=hide hb2;clear hbk hti hb2 he hA hE hR hk;go_enter Tryz.func98,Tryz.ntmps98;go_wp2_with fail;refine HW.out.mono ?_;rintro e w1 ⟨rfl,hb⟩;have HB:=hide (bl_one HB2.out hb);clear hb;go_wp2_with fail;go_ret;exact ⟨rfl,HB.out⟩
theorem serEnd_any (B b:Nat) (s:List UInt8) (h:NdH) (W0 w:World) (A1 A2:Option Addr) (n2 c1 c2:Nat) (hi:Bld B b s W0 w) (hA:AttrsIn w (.slice A1 h.attrs.length c1) h.attrs) (hs:wideH h = true) (hE:EnvX w) (hm:(serEn s h).length <= 1000000000) :
  Calls Tryz.prog 56 #[.pointer (some ⟨b,0,none⟩),.agg #[.string (str h.name),.slice A1 h.attrs.length c1,.string (str h.text),.slice A2 n2 c2]] w fun e w'=>e = .returned (.tuple #[]) /\ Bld B b (serEn s h) W0 w' /\ KT w w':=by
 have hbk:=below_one w (Obj.cells #[.string (str h.name),.slice A1 h.attrs.length c1,.string (str h.text),.slice A2 n2 c2] 33);have HIT:=hide (isText_any h A1 A2 h.attrs.length c1 n2 c2 (w.alloc (Obj.cells #[.string (str h.name),.slice A1 h.attrs.length c1,.string (str h.text),.slice A2 n2 c2] 33)))
 have HTG:Hid (∀ w',Below w.heap.size w w' -> Calls Tryz.prog 98 #[.int .i64 3,.agg #[.string (str h.name),.slice A1 h.attrs.length c1,.string (str h.text),.slice A2 n2 c2]] w' fun e w''=>e = .returned (.string (str (endW h))) /\ Below w'.heap.size w' w''):=hide (fun w' hb=>by
  have:=tag_any 3 h w' (.inr rfl) A1 A2 n2 c1 c2 (hA.kept hb) hs (hE.kept hb)
  rwa [if_neg (by decide)] at this)
 have HVD:Hid (∀ w',Calls Tryz.prog 31 #[.string (str h.name)] w' fun e w''=>e = .returned (.bool (voidB h.name)) /\ w' = w''):=hide (fun w'=>by
  have:=void14_any (str h.name) w';rw [str_toList] at this;exact this)
 have HWS:Hid (∀ w',Below w.heap.size w w' -> s.length + (endW h).length <= 1000000000 -> Calls Tryz.prog 64 #[.pointer (some ⟨b,0,none⟩),.string (str (endW h))] w' fun e w''=>e = .returned (.tuple #[.int .i64 (str (endW h)).size,.nilIface]) /\ Bld B b (s ++ endW h) W0 w'' /\ KT w w''):=hide (fun w' hb hl=>by
  refine (writeStringT_any B b s (str (endW h)) W0 w' (hi.kept hb) (by rw [str_size];omega)).mono ?_;rintro e w2 ⟨rfl,h2,h3⟩;rw [str_toList] at h2;exact ⟨rfl,h2,(KT.below hb).trans h3⟩)
 have HI:=hide hi;have HM:=hide hm;have HBK:=hide hbk;obtain ⟨X,hX⟩:∃ X,X = str h.name:=⟨_,rfl⟩
 obtain ⟨Y,hY⟩:∃ Y,Y = str h.text:=⟨_,rfl⟩
 obtain ⟨E,hEE⟩:∃ E,E = str (endW h):=⟨_,rfl⟩
 obtain ⟨W,hW⟩:∃ W,W = w.alloc (Obj.cells #[.string X,.slice A1 h.attrs.length c1,.string Y,.slice A2 n2 c2] 33):=⟨_,rfl⟩
 have hcell:W.heap[w.heap.size]? = some (Obj.cells #[.string X,.slice A1 h.attrs.length c1,.string Y,.slice A2 n2 c2] 33 (0,0)):=by rw [hW];exact heap_alloc_new w _
 have hlt:w.heap.size < W.heap.size:=by rw [hW,World.size_alloc];omega
 rw [<- hX,<- hY] at HIT HTG HBK ⊢;rw [<- hX] at HVD;rw [<- hEE] at HTG HWS;rw [<- hW] at HIT HBK;have HCC:=hide hcell;have HLT:=hide hlt;have HWW:=hide hW;clear hi hm hA hs hE hbk hX hY hEE hcell hlt hW;go_enter Tryz.func56,Tryz.ntmps56;go_wp2_with fail;rw [<- HWW.out];refine HIT.out.mono ?_;rintro e w1 ⟨rfl,hb1⟩;have hcell:=(hb1.block w.heap.size HLT.out).trans HCC.out;have d0:w1.cell? ⟨w.heap.size,0,none⟩ = some (.string X):=(Lib.cell_of_heap hcell 0).trans rfl;have d1:w1.cell? ⟨w.heap.size,1,none⟩ = some (.slice A1 h.attrs.length c1):=(Lib.cell_of_heap hcell 1).trans rfl;have d2:w1.cell? ⟨w.heap.size,2,none⟩ = some (.string Y):=(Lib.cell_of_heap hcell 2).trans rfl;have d3:w1.cell? ⟨w.heap.size,3,none⟩ = some (.slice A2 n2 c2):=(Lib.cell_of_heap hcell 3).trans rfl;have HB1:=hide (bl_one HBK.out hb1);clear hcell hb1
 by_cases e:elemB h = false
 ·rw [e];have hn:h.name = []:=by simpa [elemB] using e
  have HS:Hid (serEn s h = s):=hide (by simp [serEn,hn]);clear hn e;go_wp2_with fail;go_end0;exact ⟨rfl,by rw [HS.out];exact HI.out.kept HB1.out,KT.below HB1.out⟩
 ·replace e:elemB h = true:=by simpa using e
  rw [e];have hn:h.name ≠ []:=by simpa [elemB] using e
  by_cases v:voidB h.name = true
  ·have HS:Hid (serEn s h = s):=hide (by simp [serEn,hn,v]);rw [v] at HVD;clear hn e v;go_wp2_with (go_at_call 31;refine (HVD.out _).mono ?_;rintro e w5 ⟨rfl,hw5⟩;subst hw5);go_end0;exact ⟨rfl,by rw [HS.out];exact HI.out.kept HB1.out,KT.below HB1.out⟩
  ·have v0:voidB h.name = false:=by simpa using v
   have HS:Hid (serEn s h = s ++ endW h):=hide (by simp [serEn,hn,v0]);rw [v0] at HVD;clear hn e v v0;go_wp2_with (go_at_call 31;refine (HVD.out _).mono ?_;rintro e w5 ⟨rfl,hw5⟩;subst hw5);refine (HTG.out _ HB1.out).mono ?_;rintro e w3 ⟨rfl,hb3⟩;have HB3:=hide (bl_one HB1.out hb3);clear hb3;go_wp2_with fail;refine (HWS.out _ HB3.out (by have:=HM.out;rw [HS.out,List.length_append] at this;exact this)).mono ?_;rintro e w4 ⟨rfl,h4⟩;have H4:=hide h4;clear h4;go_wp2_with fail;go_end0;exact ⟨rfl,by rw [HS.out];exact H4.out.1,H4.out.2⟩
def rawKl:List (NdH × Tr) -> List UInt8
  | []=>[]
  | p :: r=>(if p.1.name = [] then p.1.text else []) ++ rawKl r
theorem rawK_list (T:Tr):rawK T = rawKl T.list:=by induction T with
 | nil=>rfl
 | cons h K R _ ih=>simp only [rawK,Tr.list,rawKl,ih]
theorem rawKl_snoc (l:List (NdH × Tr)) (p:NdH × Tr):rawKl (l ++ [p]) = rawKl l ++ (if p.1.name = [] then p.1.text else []):=by induction l with
 | nil=>simp [rawKl]
 | cons q r ih=>simp only [List.cons_append,rawKl,ih,List.append_assoc]
theorem rawKl_le (l:List (NdH × Tr)) (k:Nat):(rawKl (l.take k)).length <= (rawKl l).length:=by induction l generalizing k with
 | nil=>simp
 | cons p r ih=>cases k with
  | zero=>simp [rawKl]
  | succ k=>simp only [List.take_succ_cons,rawKl,List.length_append];have:=ih k;omega
theorem writeRaw_any (B b:Nat) (s:List UInt8) (W0 w:World) (v:Value) (T:Tr) (hi:Bld B b s W0 w) (hT:NodesC (fun b=>b < B) w v T) (hn:T.len <= 1000000) (hm:(s ++ rawK T).length <= 1000000000) :
  Calls Tryz.prog 100 #[.pointer (some ⟨b,0,none⟩),v] w fun e w'=>e = .returned (.tuple #[]) /\ Bld B b (s ++ rawK T) W0 w' /\ KT w w':=by
 obtain ⟨A,c,rfl⟩:=hT.form;rw [rawK_list] at hm ⊢;have HT:=hide hT;have HM:=hide hm;have HI:=hide hi;clear hT hm hi;go_enter Tryz.func100,Tryz.ntmps100;go_wp2_with fail;go_loopw [8] (fun i wr=>∃ k:Nat,k <= T.len /\ i = .int .i64 k /\ Hid (Bld B b (s ++ rawKl (T.list.take k)) w wr) /\ Hid (KT w wr)) (fun i _=>T.len - (intOf i).toNat)
 case atStart=>exact ⟨0,Nat.zero_le _,rfl,hide (by rw [List.take_zero,rawKl,List.append_nil];exact ⟨HI.out.1,Below.refl _ _,HI.out.2.2⟩),hide (KT.refl _)⟩
 case round =>
  obtain ⟨k,hk,rfl,HB,HK⟩:=hrel
  by_cases hlt:k < T.len
  ·obtain ⟨⟨f,K⟩,hf⟩:∃ f,T.list[k]? = some f:=⟨_,List.getElem?_eq_getElem (by rw [Tr.len_list];exact hlt)⟩
   have hI1:=NodesC.mono HT.out (same_below HB.out.2.1) (fun _ x=>x);obtain ⟨a,d,x,y,z,m,ha,-,p1,p2,hA,p3,p4,hm,hK⟩:=NodesC.at hI1 k f K hf;subst ha hm;have hsn:rawKl (T.list.take (k + 1)) = rawKl (T.list.take k) ++ (if f.name = [] then f.text else []):=by rw [List.take_add_one,hf];exact rawKl_snoc _ _
   have hle:=rawKl_le T.list (k + 1);have HSN:=hide hsn;have HLE:=hide hle;clear hsn hle hA hK hI1 hf;go_wp2_with fail;refine (isText_any f d x _ _ _ _ _).mono ?_;rintro e w1 ⟨rfl,hb1⟩;have hb:=bl_one (below_one wr _) hb1;have hcell:=(hb1.block wr.heap.size (by rw [World.size_alloc];omega)).trans (heap_alloc_new wr _);have d2:w1.cell? ⟨wr.heap.size,2,none⟩ = some (.string (str f.text)):=(Lib.cell_of_heap hcell 2).trans rfl;obtain ⟨Y,hY⟩:∃ Y,Y = str f.text:=⟨_,rfl⟩
   have hYl:Y.data.toList = f.text:=by rw [hY,str_toList]
   rw [<- hY] at d2;obtain ⟨X,hX⟩:∃ X,X = str f.name:=⟨_,rfl⟩
   rw [<- hY,<- hX];have HB1:=hide (HB.out.kept hb);have HK1:=hide (HK.out.trans (KT.below hb));clear hcell hb1 hb hX hY
   by_cases e:elemB f = false
   ·rw [e];have hn:f.name = []:=by simpa [elemB] using e
    have hsn:=HSN.out;rw [if_pos hn] at hsn
    have hl:(s ++ rawKl (T.list.take k)).length + Y.size <= 140737488355328:=by
     have h1:=HLE.out;have h2:=HM.out;rw [hsn,List.length_append,<- hYl,toList_length] at h1;rw [List.length_append] at h2;rw [List.length_append];omega
    have HWS:=hide (writeStringT_any B b (s ++ rawKl (T.list.take k)) Y w w1 HB1.out hl);rw [hYl,List.append_assoc,<- hsn] at HWS;clear hn e hsn hl hYl HSN HLE;go_wp2_with fail;refine HWS.out.mono ?_;rintro e w2 ⟨rfl,hb2,hk2⟩;have HB2:=hide hb2;have HK2:=hide (HK1.out.trans hk2);clear hb2 hk2;go_wp2_with fail;go_roundw
    case rel=>exact ⟨k + 1,by omega,by go_num,HB2,HK2⟩
    case measure=>simp [intOf];omega
   ·replace e:elemB f = true:=by simpa using e
    rw [e];have hn:f.name ≠ []:=by simpa [elemB] using e
    have hsn:=HSN.out;rw [if_neg hn,List.append_nil] at hsn;rw [<- hsn] at HB1;clear hn e hsn hYl HSN HLE;go_wp2_with fail;go_roundw
    case rel=>exact ⟨k + 1,by omega,by go_num,HB1,HK1⟩
    case measure=>simp [intOf];omega
  ·obtain rfl:k = T.len:=by omega
   have HB2:=HB.out;rw [<- Tr.len_list,List.take_length] at HB2;replace HB2:=hide HB2;go_wp2_with fail;go_end0;exact ⟨rfl,⟨HB2.out.1,HI.out.2.1.trans HB2.out.2.1,HB2.out.2.2⟩,HK.out⟩
theorem serBegin_any (B b:Nat) (s:List UInt8) (h:NdH) (K:Tr) (W0 w:World) (A1 A2:Option Addr) (n2 c1 c2:Nat) (hi:Bld B b s W0 w) (hA:AttrsIn w (.slice A1 h.attrs.length c1) h.attrs) (hK:NodesC (fun b=>b < B) w (.slice A2 n2 c2) K) (hkl:K.len <= 1000000) (hs:wideH h = true) (hE:EnvX w) (hm:(serBg s h K).length <= 1000000000) :
  Calls Tryz.prog 54 #[.pointer (some ⟨b,0,none⟩),.agg #[.string (str h.name),.slice A1 h.attrs.length c1,.string (str h.text),.slice A2 n2 c2]] w fun e w'=>e = .returned (if serDv h = true then .slice A2 n2 c2 else .slice none 0 0) /\ Bld B b (serBg s h K) W0 w' /\ KT w w':=by
 have hbk:=below_one w (Obj.cells #[.string (str h.name),.slice A1 h.attrs.length c1,.string (str h.text),.slice A2 n2 c2] 33);have HIT:=hide (isText_any h A1 A2 h.attrs.length c1 n2 c2 (w.alloc (Obj.cells #[.string (str h.name),.slice A1 h.attrs.length c1,.string (str h.text),.slice A2 n2 c2] 33)))
 have HTG:Hid (∀ w',Below w.heap.size w w' -> Calls Tryz.prog 98 #[.int .i64 2,.agg #[.string (str h.name),.slice A1 h.attrs.length c1,.string (str h.text),.slice A2 n2 c2]] w' fun e w''=>e = .returned (.string (str (startW h))) /\ Below w'.heap.size w' w''):=hide (fun w' hb=>by
  have:=tag_any 2 h w' (.inl rfl) A1 A2 n2 c1 c2 (hA.kept hb) hs (hE.kept hb)
  rwa [if_pos rfl] at this)
 have HVD:Hid (∀ w',Calls Tryz.prog 31 #[.string (str h.name)] w' fun e w''=>e = .returned (.bool (voidB h.name)) /\ w' = w''):=hide (fun w'=>by
  have:=void14_any (str h.name) w';rw [str_toList] at this;exact this)
 have HRW:Hid (∀ w',Calls Tryz.prog 99 #[.string (str h.name)] w' fun e w''=>e = .returned (.bool (rawB h.name)) /\ w' = w''):=hide (fun w'=>by
  have:=rawW_any (str h.name) w';rw [str_toList] at this;exact this)
 have HTX:Hid (∀ w',Below w.heap.size w w' -> Calls Tryz.prog 97 #[.string (str h.text)] w' fun e w''=>e = .returned (.string (str (escQ false h.text))) /\ Below w'.heap.size w' w''):=hide (fun w' hb=>by
  have:=entText_any (str h.text) w' (by
   have h2:=hs;unfold wideH wfitT at h2;simp only [Bool.and_eq_true,decide_eq_true_eq] at h2;rw [str_size];omega)
  rw [str_toList] at this;exact this)
 have HWS:Hid (∀ (x:List UInt8) w',Below w.heap.size w w' -> s.length + x.length <= 1000000000 -> Calls Tryz.prog 64 #[.pointer (some ⟨b,0,none⟩),.string (str x)] w' fun e w''=>e = .returned (.tuple #[.int .i64 (str x).size,.nilIface]) /\ Bld B b (s ++ x) w w'' /\ KT w' w''):=hide (fun x w' hb hl=>by
  have hi2:=hi.kept hb;refine (writeStringT_any B b s (str x) w w' ⟨hi2.1,hb.mono hi.2.2,hi2.2.2⟩ (by rw [str_size];omega)).mono ?_;rintro e w2 ⟨rfl,h2,h3⟩;rw [str_toList] at h2;exact ⟨rfl,h2,h3⟩)
 have HWR:Hid (∀ (x:List UInt8) w',Bld B b x w w' -> (x ++ rawK K).length <= 1000000000 -> Calls Tryz.prog 100 #[.pointer (some ⟨b,0,none⟩),.slice A2 n2 c2] w' fun e w''=>e = .returned (.tuple #[]) /\ Bld B b (x ++ rawK K) w w'' /\ KT w' w''):=hide (fun x w' hb hl =>
  writeRaw_any B b x w w' _ K hb (NodesC.mono hK (same_below hb.2.1) (fun _ z=>z)) hkl hl)
 have HI:=hide hi;have HM:=hide hm;have HBK:=hide hbk;obtain ⟨X,hX⟩:∃ X,X = str h.name:=⟨_,rfl⟩
 obtain ⟨Y,hY⟩:∃ Y,Y = str h.text:=⟨_,rfl⟩
 obtain ⟨S,hS⟩:∃ S,S = str (startW h):=⟨_,rfl⟩
 obtain ⟨Q,hQ⟩:∃ Q,Q = str (escQ false h.text):=⟨_,rfl⟩
 obtain ⟨R,hR⟩:∃ R,R = (if serDv h = true then Value.slice A2 n2 c2 else .slice none 0 0):=⟨_,rfl⟩
 obtain ⟨W,hW⟩:∃ W,W = w.alloc (Obj.cells #[.string X,.slice A1 h.attrs.length c1,.string Y,.slice A2 n2 c2] 33):=⟨_,rfl⟩
 have hcell:W.heap[w.heap.size]? = some (Obj.cells #[.string X,.slice A1 h.attrs.length c1,.string Y,.slice A2 n2 c2] 33 (0,0)):=by rw [hW];exact heap_alloc_new w _
 have hlt:w.heap.size < W.heap.size:=by rw [hW,World.size_alloc];omega
 rw [<- hR];rw [<- hX,<- hY] at HIT HTG HBK;rw [<- hX,<- hY];rw [<- hX] at HVD HRW;rw [<- hY,<- hQ] at HTX;rw [<- hS] at HTG;rw [<- hW] at HIT HBK;have HWS1:=hide (HWS.out (startW h));have HWS2:=hide (HWS.out (escQ false h.text));rw [<- hS] at HWS1;rw [<- hQ] at HWS2;have HCC:=hide hcell;have HLT:=hide hlt;have HWW:=hide hW;have HRR:=hide hR;clear hi hm hA hs hE hbk hX hY hS hQ hcell hlt hW hR HWS hK hkl;go_enter Tryz.func54,Tryz.ntmps54;go_wp2_with fail;rw [<- HWW.out];refine HIT.out.mono ?_;rintro e w1 ⟨rfl,hb1⟩;have hk1:=KT.below hb1;have hcell:=(hk1 _ _ _ _ HCC.out (by decide) (by decide)).trans HCC.out;have d0:w1.cell? ⟨w.heap.size,0,none⟩ = some (.string X):=(Lib.cell_of_heap hcell 0).trans rfl;have d1:w1.cell? ⟨w.heap.size,1,none⟩ = some (.slice A1 h.attrs.length c1):=(Lib.cell_of_heap hcell 1).trans rfl;have d2:w1.cell? ⟨w.heap.size,2,none⟩ = some (.string Y):=(Lib.cell_of_heap hcell 2).trans rfl;have d3:w1.cell? ⟨w.heap.size,3,none⟩ = some (.slice A2 n2 c2):=(Lib.cell_of_heap hcell 3).trans rfl;have HB1:=hide (bl_one HBK.out hb1);have HCC1:=hide hcell;clear hcell hb1 hk1
 by_cases e:elemB h = false
 ·rw [e];have hn:h.name = []:=by simpa [elemB] using e
  have HS:Hid (serBg s h K = s ++ escQ false h.text):=hide (by simp [serBg,hn]);have HD:Hid (serDv h = false):=hide (by simp [serDv,e]);clear hn e;go_wp2_with fail;refine (HTX.out _ HB1.out).mono ?_;rintro e w2 ⟨rfl,hb2⟩;have HB2:=hide (bl_one HB1.out hb2);clear hb2;go_wp2_with fail;refine (HWS2.out _ HB2.out (by have:=HM.out;rw [HS.out,List.length_append] at this;exact this)).mono ?_;rintro e w3 ⟨rfl,h3,h4⟩;have H3:=hide h3;have H4:=hide ((KT.below HB2.out).trans h4);clear h3 h4;go_wp2_with fail;go_ret;exact ⟨by rw [HRR.out,HD.out];rfl,by rw [HS.out];exact ⟨H3.out.1,HI.out.2.1.trans H3.out.2.1,H3.out.2.2⟩,H4.out⟩
 ·replace e:elemB h = true:=by simpa using e
  rw [e];have hn:h.name ≠ []:=by simpa [elemB] using e
  have HSL:Hid (s.length + (startW h).length <= 1000000000):=hide (by
   have:=HM.out;unfold serBg at this;rw [if_neg hn] at this
   repeat' split at this
   all_goals (simp only [List.length_append] at this;omega))
  go_wp2_with fail;refine (HTG.out _ HB1.out).mono ?_;rintro e w2 ⟨rfl,hb2⟩;have HB2:=hide (bl_one HB1.out hb2);have HK2:=hide (KT.below hb2);clear hb2;go_wp2_with fail;refine (HWS1.out _ HB2.out HSL.out).mono ?_;rintro e w3 ⟨rfl,h3,h4⟩;have hcell:=((HK2.out.trans h4) _ _ _ _ HCC1.out (by decide) (by decide)).trans HCC1.out;have e0:w3.cell? ⟨w.heap.size,0,none⟩ = some (.string X):=(Lib.cell_of_heap hcell 0).trans rfl;have e3:w3.cell? ⟨w.heap.size,3,none⟩ = some (.slice A2 n2 c2):=(Lib.cell_of_heap hcell 3).trans rfl;have H3:=hide h3;have H4:=hide ((KT.below HB2.out).trans h4);clear h3 h4 hcell
  by_cases v:voidB h.name = true
  ·have HS:Hid (serBg s h K = s ++ startW h):=hide (by simp [serBg,hn,v]);have HD:Hid (serDv h = false):=hide (by simp [serDv,v]);rw [v] at HVD;clear hn e v;go_wp2_with (go_at_call 31;refine (HVD.out _).mono ?_;rintro e w5 ⟨rfl,hw5⟩;subst hw5);go_ret;exact ⟨by rw [HRR.out,HD.out];rfl,by rw [HS.out];exact ⟨H3.out.1,HI.out.2.1.trans H3.out.2.1,H3.out.2.2⟩,H4.out⟩
  ·have v0:voidB h.name = false:=by simpa using v
   rw [v0] at HVD
   by_cases r:rawB h.name = true
   ·have HS:Hid (serBg s h K = s ++ startW h ++ rawK K):=hide (by simp [serBg,hn,v0,r]);have HD:Hid (serDv h = false):=hide (by simp [serDv,r]);rw [r] at HRW;clear hn e v v0 r
    go_wp2_with (first
     |(go_at_call 31;refine (HVD.out _).mono ?_;rintro e w5 ⟨rfl,hw5⟩;subst hw5)
     |(go_at_call 99;refine (HRW.out _).mono ?_;rintro e w5 ⟨rfl,hw5⟩;subst hw5)
     |(go_at_call 100;refine (HWR.out _ _ H3.out (by have:=HM.out;rw [HS.out] at this;exact this)).mono ?_;rintro e w6 ⟨rfl,h5,h6⟩;have H5:=hide h5;have H6:=hide (H4.out.trans h6);clear h5 h6))
    go_ret;exact ⟨by rw [HRR.out,HD.out];rfl,by rw [HS.out];exact ⟨H5.out.1,HI.out.2.1.trans H5.out.2.1,H5.out.2.2⟩,H6.out⟩
   ·have r0:rawB h.name = false:=by simpa using r
    have HS:Hid (serBg s h K = s ++ startW h):=hide (by simp [serBg,hn,v0,r0]);have HD:Hid (serDv h = true):=hide (by simp [serDv,e,v0,r0]);rw [r0] at HRW;clear hn e v v0 r r0
    go_wp2_with (first
     |(go_at_call 31;refine (HVD.out _).mono ?_;rintro e w5 ⟨rfl,hw5⟩;subst hw5)
     |(go_at_call 99;refine (HRW.out _).mono ?_;rintro e w5 ⟨rfl,hw5⟩;subst hw5))
    go_ret;exact ⟨by rw [HRR.out,HD.out];rfl,by rw [HS.out];exact ⟨H3.out.1,HI.out.2.1.trans H3.out.2.1,H3.out.2.2⟩,H4.out⟩
theorem wr_beg (W0:World) (hE:EnvX W0):BegOK W0.heap.size 53 #[.pointer (some ⟨W0.heap.size,0,none⟩)] (fun s w=>Bld W0.heap.size W0.heap.size s W0 w) serBg serDv List.length 1000000000 (fun h K=>wideH h = true /\ K.len <= 1000000):=by
 intro s w h K av A m c hi hB hG ha hk hm;obtain ⟨A1,c1,rfl⟩:=ha.1.form;show Calls Tryz.prog _ #[ndV h _ _,.pointer (some ⟨W0.heap.size,0,none⟩)] w _
 unfold ndV;obtain ⟨R,hR⟩:∃ R,R = (if serDv h = true then Value.slice A m c else Value.slice none 0 0):=⟨_,rfl⟩
 have hbk:=below_one w (Obj.cells #[.string (str h.name),.slice A1 h.attrs.length c1,.string (str h.text),.slice A m c] 33);have hi1:=hi.kept hbk;have hb:=serBegin_any W0.heap.size W0.heap.size s h K w _ A1 A m c1 c ⟨hi1.1,hbk.mono hB,hi1.2.2⟩ (ha.1.kept hbk) (NodesC.mono hk (same_below (hbk.mono hB)) (fun _ x=>x)) hG.2 hG.1 (hE.kept hi1.2.1) hm;rw [<- hR] at hb ⊢;have HB:=hide hb;have HI:=hide hi;have HK:=hide (KT.below hbk);clear hi hB hG ha hk hm hR hE hb hbk hi1;go_enter Tryz.func53,Tryz.ntmps53;go_wp2_with fail;refine HB.out.mono ?_;rintro e w1 ⟨rfl,h1,h2⟩;have H1:=hide h1;have H2:=hide (HK.out.trans h2);clear h1 h2;go_wp2_with fail;go_ret;exact ⟨rfl,⟨H1.out.1,HI.out.2.1.trans H1.out.2.1,H1.out.2.2⟩,frl_kt H1.out.2.1 H2.out⟩
def serEn2 (s:List UInt8) (h:NdH):List UInt8:=if wideH h = true then serEn s h else s ++ List.replicate 1000000001 0
theorem serEn2_le (s:List UInt8) (h:NdH):s.length <= (serEn2 s h).length:=by
 unfold serEn2;split
 ·exact serEn_le s h
 ·rw [List.length_append];omega
theorem serEn2_wide {s:List UInt8} {h:NdH} (hm:(serEn2 s h).length <= 1000000000):wideH h = true /\ serEn2 s h = serEn s h:=by
 by_cases hs:wideH h = true
 ·exact ⟨hs,by unfold serEn2;rw [if_pos hs]⟩
 ·exfalso;unfold serEn2 at hm;rw [if_neg hs,List.length_append,List.length_replicate] at hm;omega
theorem vis_write2 (T:Tr) (s:List UInt8) (ha:T.all wideH = true):vis serBg serEn2 serDv T s = s ++ writeT T:=by
 rw [<- vis_write T s]
 induction T generalizing s with
 | nil=>rfl
 | cons h K R ihk ihr =>
  simp only [Tr.all,Bool.and_eq_true] at ha;have e:∀ x,serEn2 x h = serEn x h:=fun x=>by unfold serEn2;rw [if_pos ha.1]
  simp only [vis,e,ihr _ ha.2.2,ihk _ ha.2.1]
theorem ev_wide (T:Tr) (ha:T.all wideH = true) (hc:T.count <= 1000000):T.ev (fun h K=>wideH h = true /\ K.len <= 1000000):=by
 induction T with
 | nil=>trivial
 | cons h K R ihk ihr =>
  simp only [Tr.all,Bool.and_eq_true] at ha;simp only [Tr.count] at hc;exact ⟨⟨ha.1,Nat.le_trans (Tr.len_count K) (by omega)⟩,ihk ha.2.1 (by omega),ihr ha.2.2 (by omega)⟩
theorem wr_end (W0:World) (hE:EnvX W0):EndOK W0.heap.size 55 #[.pointer (some ⟨W0.heap.size,0,none⟩)] (fun s w=>Bld W0.heap.size W0.heap.size s W0 w) serEn2 List.length 1000000000:=by
 intro s w h K av kv hi hB ha hk hm0;obtain ⟨hsm,he2⟩:=serEn2_wide hm0;rw [he2] at hm0;have hm:=hm0;rw [he2];obtain ⟨A1,c1,rfl⟩:=ha.1.form;obtain ⟨A2,c2,rfl⟩:=hk.form;show Calls Tryz.prog _ #[ndV h _ _,.pointer (some ⟨W0.heap.size,0,none⟩)] w _
 unfold ndV;have hbk:=below_one w (Obj.cells #[.string (str h.name),.slice A1 h.attrs.length c1,.string (str h.text),.slice A2 K.len c2] 33);have hi1:=hi.kept hbk;have hb:=serEnd_any W0.heap.size W0.heap.size s h w _ A1 A2 K.len c1 c2 ⟨hi1.1,hbk.mono hB,hi1.2.2⟩ (ha.1.kept hbk) hsm (hE.kept hi1.2.1) hm;have HB:=hide hb;have HI:=hide hi;have HK:=hide (KT.below hbk);clear hi hB ha hk hm hm0 hsm he2 hE hb hbk hi1;go_enter Tryz.func55,Tryz.ntmps55;go_wp2_with fail;refine HB.out.mono ?_;rintro e w1 ⟨rfl,h1,h2⟩;have H1:=hide h1;have H2:=hide (HK.out.trans h2);clear h1 h2;go_wp2_with fail;go_end0;exact ⟨rfl,⟨H1.out.1,HI.out.2.1.trans H1.out.2.1,H1.out.2.2⟩,frl_kt H1.out.2.1 H2.out⟩
theorem serWriteW_any (v:Value) (T:Tr) (w:World) (hE:EnvX w) (hT:NodesIn w v T) (ha:T.all wideH = true) (hc:T.count <= 1000000) (hl:(writeT T).length <= 1000000000) :
  Calls Tryz.prog 21 #[v] w fun e w'=>e = .returned (.string (str (writeT T))) /\ Below w.heap.size w w':=by
 have hbk:=below_one w (Obj.cells #[.pointer none,.slice none 0 0] 78);have hnew:Bld w.heap.size w.heap.size [] w (w.alloc (Obj.cells #[.pointer none,.slice none 0 0] 78)):=Bld.new (Below.refl _ _) (Nat.le_refl _);have HB:=hide (walk_gen w.heap.size 53 55 #[.pointer (some ⟨w.heap.size,0,none⟩)] #[.pointer (some ⟨w.heap.size,0,none⟩)] (enters_of Tryz.func53 (by kernel_rfl) rfl) (enters_of Tryz.func55 (by kernel_rfl) rfl) (fun s w'=>Bld w.heap.size w.heap.size s w w') serBg serEn2 serDv List.length 1000000000 (fun h K=>wideH h = true /\ K.len <= 1000000) serBg_le serEn2_le (bld_inv _ _ _) (wr_beg w hE) (wr_end w hE) v T [] (w.alloc (Obj.cells #[.pointer none,.slice none 0 0] 78)) (NodesC.mono hT (same_below hbk) (fun _ x=>x)) (ev_wide T ha hc) hc (by rw [vis_write2 T [] ha,List.nil_append];exact hl) hnew hbk.size);rw [vis_write2 T [] ha,List.nil_append] at HB;obtain ⟨A,c,rfl⟩:=NodesC.form hT;have hmf:∀ (fn:Fn) (first cap:Array Value) (w:World),(Instr.makeFunc fn first cap).run Tryz.prog w = .ok (.func fn first cap) w:=fun _ _ _ _=>rfl
 clear hT hbk hnew ha hE;go_enter Tryz.func21,Tryz.ntmps21;go_wp2_with fail;refine HB.out.mono ?_;rintro e w1 ⟨rfl,h1,h2⟩;have HS:=hide h1.string;clear h1 h2;go_wp2_with fail;refine HS.out.mono ?_;rintro e w2 ⟨rfl,h3⟩;have H3:=hide h3;clear h3;go_wp2_with fail;go_ret;exact ⟨rfl,H3.out⟩
theorem serWrite_any (v:Value) (T:Tr) (w:World) (hE:EnvX w) (hT:NodesIn w v T) (ha:T.all smallH = true) (hc:T.count <= 1000000) (hl:(writeT T).length <= 1000000000) :
  Calls Tryz.prog 21 #[v] w fun e w'=>e = .returned (.string (str (writeT T))) /\ Below w.heap.size w w' :=
 serWriteW_any v T w hE hT (small_wides ha) hc hl
theorem below_of13 {w w':World} (h:∃ m,w' = w.drewN m):Below w.heap.size w w':=by
 obtain ⟨m,rfl⟩:=h;exact ⟨rfl,rfl,rfl,Nat.le_refl _,fun _ _=>rfl⟩
theorem drew_on {w w':World} (h:∃ m,w' = w.drewN m) (n:Nat):∃ m,w'.drewN n = w.drewN m:=by
 obtain ⟨m,rfl⟩:=h;exact ⟨m + n,by rw [World.drewN_drewN]⟩
theorem sameAttrs_any (v1 v2:Value) (l1 l2:List AtL) (w:World) (h1:AttrsIn w v1 l1) (h2:AttrsIn w v2 l2) (hn:l1.length <= 1048576) :
  Calls Tryz.prog 46 #[v1,v2] w fun e w'=>e = .returned (.bool (decide (l1 = l2))) /\ ∃ m,w' = w.drewN m:=by
 obtain ⟨A1,c1,rfl⟩:=h1.form;obtain ⟨A2,c2,rfl⟩:=h2.form;have H1:=hide h1;have H2:=hide h2;clear h1 h2
 by_cases hl:l1.length = l2.length
 ·have t0:((l1.length:Int) == l2.length) = true:=by rw [beq_iff_eq];omega
  have t1:((l1.length:Int) != l2.length) = false:=by rw [bne,t0];rfl
  go_enter Tryz.func46,Tryz.ntmps46;go_wp2_with fail;go_loopw [5] (fun i wr=>∃ k:Nat,k <= l1.length /\ i = .int .i64 k /\ Hid (∃ m,wr = w.drewN m) /\ Hid (l1.take k = l2.take k)) (fun i _=>l1.length - (intOf i).toNat)
  case atStart=>exact ⟨0,Nat.zero_le _,rfl,hide ⟨0,rfl⟩,hide rfl⟩
  case round =>
   obtain ⟨k,hk,rfl,HB,HG⟩:=hrel
   by_cases hlt:k < l1.length
   ·obtain ⟨f,hf⟩:∃ f,l1[k]? = some f:=⟨_,List.getElem?_eq_getElem hlt⟩
    obtain ⟨g,hg⟩:∃ g,l2[k]? = some g:=⟨_,List.getElem?_eq_getElem (by omega)⟩
    obtain ⟨a,ha,hc1,hc2⟩:=(H1.out.kept (below_of13 HB.out)).at k f hf;obtain ⟨b,hb,hd1,hd2⟩:=(H2.out.kept (below_of13 HB.out)).at k g hg;subst ha hb;have hlt2:k < l2.length:=by omega
    obtain ⟨X1,hX1⟩:∃ X,X = str f.1:=⟨_,rfl⟩
    obtain ⟨X2,hX2⟩:∃ X,X = str f.2:=⟨_,rfl⟩
    obtain ⟨Y1,hY1⟩:∃ X,X = str g.1:=⟨_,rfl⟩
    obtain ⟨Y2,hY2⟩:∃ X,X = str g.2:=⟨_,rfl⟩
    rw [<- hX1] at hc1;rw [<- hX2] at hc2;rw [<- hY1] at hd1;rw [<- hY2] at hd2
    by_cases he:f = g
    ·have e1:X1 = Y1:=by rw [hX1,hY1,he]
     have e2:X2 = Y2:=by rw [hX2,hY2,he]
     subst e1 e2;have HN:Hid (l1.take (k + 1) = l2.take (k + 1)):=hide (by rw [List.take_add_one,List.take_add_one,HG.out,hf,hg,he]);clear he hf hg hX1 hX2 hY1 hY2;go_wp2_with fail;go_quiet (fail);go_wp2_with fail;go_roundw
     case rel=>exact ⟨k + 1,by omega,by go_num,hide (drew_on HB.out nq),HN⟩
     case measure=>simp [intOf];omega
    ·have HD:Hid (decide (l1 = l2) = false):=hide (decide_eq_false (fun e=>he (by rw [e,hg] at hf;exact (Option.some.inj hf).symm)))
     by_cases he1:f.1 = g.1
     ·have he2:f.2 ≠ g.2:=fun e=>he (Prod.ext he1 e)
      have e1:X1 = Y1:=by rw [hX1,hY1,he1]
      have t2:(X2.toList == Y2.toList) = false:=by
       rw [hX2,hY2,bytes_list,bytes_list,str_toList,str_toList];exact beq_eq_false_iff_ne.2 he2
      subst e1;clear he he1 he2 hf hg hX1 hX2 hY1 hY2;go_wp2_with fail;go_quiet (fail);go_wp2_with fail;go_ret;exact ⟨ret_bool HD.out.symm,drew_on HB.out nq⟩
     ·have t2:(X1.toList == Y1.toList) = false:=by
       rw [hX1,hY1,bytes_list,bytes_list,str_toList,str_toList];exact beq_eq_false_iff_ne.2 he1
      clear he he1 hf hg hX1 hX2 hY1 hY2;go_wp2_with fail;go_quiet (fail);go_wp2_with fail;go_ret;exact ⟨ret_bool HD.out.symm,drew_on HB.out nq⟩
   ·have HD:Hid (decide (l1 = l2) = true):=hide (by
     have:=HG.out;rw [List.take_of_length_le (by omega),List.take_of_length_le (by omega)] at this;exact decide_eq_true this)
    go_wp2_with fail;go_ret;exact ⟨ret_bool HD.out.symm,HB.out⟩
 ·have t0:((l1.length:Int) == l2.length) = false:=by rw [beq_eq_false_iff_ne];omega
  have t1:((l1.length:Int) != l2.length) = true:=by rw [bne,t0];rfl
  have HD:Hid (decide (l1 = l2) = false):=hide (decide_eq_false (fun e=>hl (by rw [e])));clear hl;go_enter Tryz.func46,Tryz.ntmps46;go_wp2_with fail;go_ret;exact ⟨ret_bool HD.out.symm,0,rfl⟩
def attrsFew (p:NdH):Bool:=decide (p.attrs.length <= 1048576)
def SameP (N:Nat):Prop:=∀ (v1 v2:Value) (t1 t2:Tr) (w:World),t1.count < N -> N <= 1048576 -> NodesIn w v1 t1 -> NodesIn w v2 t2 -> t1.all attrsFew = true ->
    Calls Tryz.prog 14 #[v1,v2] w fun e w'=>e = .returned (.bool (decide (t1 = t2))) /\ ∃ m,w' = w.drewN m
theorem same14_step (n:Nat) (IH:SameP n):SameP (n + 1):=by
 intro v1 v2 t1 t2 w hn hN h1 h2 ha;have hn1:t1.len <= 1048576:=Nat.le_trans (Tr.len_count t1) (by omega);obtain ⟨A1,c1,rfl⟩:=NodesC.form h1;obtain ⟨A2,c2,rfl⟩:=NodesC.form h2;have H1:=hide h1;have H2:=hide h2;have HAL:=hide ha;have HIH:=hide IH;clear h1 h2 ha IH
 by_cases hl:t1.len = t2.len
 ·have t0:((t1.len:Int) == t2.len) = true:=by rw [beq_iff_eq];omega
  have t1x:((t1.len:Int) != t2.len) = false:=by rw [bne,t0];rfl
  go_enter Tryz.func14,Tryz.ntmps14;go_wp2_with fail;go_loopw [5] (fun i wr=>∃ k:Nat,k <= t1.len /\ i = .int .i64 k /\ Hid (∃ m,wr = w.drewN m) /\ Hid (t1.list.take k = t2.list.take k)) (fun i _=>t1.len - (intOf i).toNat)
  case atStart=>exact ⟨0,Nat.zero_le _,rfl,hide ⟨0,rfl⟩,hide rfl⟩
  case round =>
   obtain ⟨k,hk,rfl,HB,HG⟩:=hrel
   by_cases hlt:k < t1.len
   ·obtain ⟨⟨f,K⟩,hf⟩:∃ f,t1.list[k]? = some f:=⟨_,List.getElem?_eq_getElem (by rw [Tr.len_list];exact hlt)⟩
    obtain ⟨⟨g,L⟩,hg⟩:∃ g,t2.list[k]? = some g:=⟨_,List.getElem?_eq_getElem (by rw [Tr.len_list];omega)⟩
    have hI1:=H1.out.kept (below_of13 HB.out);have hI2:=H2.out.kept (below_of13 HB.out);obtain ⟨a,d,x,y,z,m,ha,-,p1,p2,hA,p3,p4,hm,hK⟩:=NodesC.at hI1 k f K hf;obtain ⟨b,d',x',y',z',m',hb,-,q1,q2,hB,q3,q4,hm',hL⟩:=NodesC.at hI2 k g L hg;subst ha hb;have hlt2:k < t2.len:=by omega
    have hKc:=Tr.at_count hf;obtain ⟨haf,haK⟩:=Tr.all_at HAL.out hf
    have HSA:Hid (∀ m,Calls Tryz.prog 46 #[.slice d f.attrs.length y,.slice d' g.attrs.length y'] (wr.drewN m) fun e w'=>e = .returned (.bool (decide (f.attrs = g.attrs))) /\ ∃ k,w' = (wr.drewN m).drewN k) :=
     hide fun m=>sameAttrs_any _ _ _ _ _ (hA.1.kept ⟨rfl,rfl,rfl,Nat.le_refl _,fun _ _=>rfl⟩) (hB.1.kept ⟨rfl,rfl,rfl,Nat.le_refl _,fun _ _=>rfl⟩) (by simpa [attrsFew] using haf)
    have HSK:Hid (∀ q,Calls Tryz.prog 14 #[.slice x m z,.slice x' m' z'] (wr.drewN q) fun e w'=>e = .returned (.bool (decide (K = L))) /\ ∃ k,w' = (wr.drewN q).drewN k) :=
     hide fun q=>HIH.out _ _ K L _ (by omega) (by omega) (NodesIn.kept hK ⟨rfl,rfl,rfl,Nat.le_refl _,fun _ _=>rfl⟩) (NodesIn.kept hL ⟨rfl,rfl,rfl,Nat.le_refl _,fun _ _=>rfl⟩) haK
    obtain ⟨X1,hX1⟩:∃ X,X = str f.name:=⟨_,rfl⟩
    obtain ⟨X2,hX2⟩:∃ X,X = str g.name:=⟨_,rfl⟩
    obtain ⟨Y1,hY1⟩:∃ X,X = str f.text:=⟨_,rfl⟩
    obtain ⟨Y2,hY2⟩:∃ X,X = str g.text:=⟨_,rfl⟩
    rw [<- hX1] at p1;rw [<- hX2] at q1;rw [<- hY1] at p3;rw [<- hY2] at q3;have HDF:Hid ((f,K) ≠ (g,L) -> decide (t1 = t2) = false):=hide fun hne=>decide_eq_false fun e=>hne (by rw [e,hg] at hf;exact (Option.some.inj hf).symm)
    have HNX:Hid ((f,K) = (g,L) -> t1.list.take (k + 1) = t2.list.take (k + 1)):=hide fun he=>by rw [List.take_add_one,List.take_add_one,HG.out,hf,hg,he]
    have hxe:f.name ≠ g.name -> (X1.toList == X2.toList) = false:=fun h=>by
     rw [hX1,hX2,bytes_list,bytes_list,str_toList,str_toList];exact beq_eq_false_iff_ne.2 h
    have hye:f.text ≠ g.text -> (Y1.toList == Y2.toList) = false:=fun h=>by
     rw [hY1,hY2,bytes_list,bytes_list,str_toList,str_toList];exact beq_eq_false_iff_ne.2 h
    have hxs:f.name = g.name -> X1 = X2:=fun h=>by rw [hX1,hX2,h]
    have hys:f.text = g.text -> Y1 = Y2:=fun h=>by rw [hY1,hY2,h]
    have hne1:f.name ≠ g.name -> (f,K) ≠ (g,L):=fun h e=>h (congrArg (fun z:NdH × Tr=>z.1.name) e)
    have hne2:f.text ≠ g.text -> (f,K) ≠ (g,L):=fun h e=>h (congrArg (fun z:NdH × Tr=>z.1.text) e)
    have hne3:f.attrs ≠ g.attrs -> (f,K) ≠ (g,L):=fun h e=>h (congrArg (fun z:NdH × Tr=>z.1.attrs) e)
    have hne4:K ≠ L -> (f,K) ≠ (g,L):=fun h e=>h (congrArg (fun z:NdH × Tr=>z.2) e)
    have heq:f.name = g.name -> f.text = g.text -> f.attrs = g.attrs -> K = L -> (f,K) = (g,L):=fun e1 e2 e3 e4=>by
     rw [e4]
     congr 1
     cases f;cases g
     simp only at e1 e2 e3;rw [e1,e2,e3]
    clear hf hg hX1 hX2 hY1 hY2 hA hB hK hL hm hm' haf haK hKc hI1 hI2
    by_cases e1:f.name = g.name
    ·have x1:=hxs e1;subst x1
     by_cases e2:f.text = g.text
     ·have x2:=hys e2;subst x2
      by_cases e3:f.attrs = g.attrs
      ·by_cases e4:K = L
       ·have HN:Hid (t1.list.take (k + 1) = t2.list.take (k + 1)):=hide (HNX.out (heq e1 e2 e3 e4));rw [decide_eq_true e3] at HSA;rw [decide_eq_true e4] at HSK;clear hxe hye hxs hys hne1 hne2 hne3 hne4 heq e1 e2 e3 e4;go_wp2_with fail;go_quiet (first | (go_at_call 46;exact Calls.quiet_of (HSA.out _)) | (go_at_call 14;exact Calls.quiet_of (HSK.out _)) | fail);go_wp2_with fail;go_roundw
        case rel=>exact ⟨k + 1,by omega,by go_num,hide (drew_on HB.out nq),HN⟩
        case measure=>simp [intOf];omega
       ·have HD:Hid (decide (t1 = t2) = false):=hide (HDF.out (hne4 e4));rw [decide_eq_true e3] at HSA;rw [decide_eq_false e4] at HSK;clear hxe hye hxs hys hne1 hne2 hne3 hne4 heq e1 e2 e3 e4;go_wp2_with fail;go_quiet (first | (go_at_call 46;exact Calls.quiet_of (HSA.out _)) | (go_at_call 14;exact Calls.quiet_of (HSK.out _)) | fail);go_wp2_with fail;go_ret;exact ⟨ret_bool HD.out.symm,drew_on HB.out nq⟩
      ·have HD:Hid (decide (t1 = t2) = false):=hide (HDF.out (hne3 e3));rw [decide_eq_false e3] at HSA;clear hxe hye hxs hys hne1 hne2 hne3 hne4 heq e1 e2 e3;go_wp2_with fail;go_quiet (first | (go_at_call 46;exact Calls.quiet_of (HSA.out _)) | fail);go_wp2_with fail;go_ret;exact ⟨ret_bool HD.out.symm,drew_on HB.out nq⟩
     ·have HD:Hid (decide (t1 = t2) = false):=hide (HDF.out (hne2 e2));have t3:=hye e2;clear hxe hye hxs hys hne1 hne2 hne3 hne4 heq e1 e2;go_wp2_with fail;go_quiet (fail);go_wp2_with fail;go_ret;exact ⟨ret_bool HD.out.symm,drew_on HB.out nq⟩
    ·have HD:Hid (decide (t1 = t2) = false):=hide (HDF.out (hne1 e1));have t2x:=hxe e1;clear hxe hye hxs hys hne1 hne2 hne3 hne4 heq e1;go_wp2_with fail;go_quiet (fail);go_wp2_with fail;go_ret;exact ⟨ret_bool HD.out.symm,drew_on HB.out nq⟩
   ·have HD:Hid (decide (t1 = t2) = true):=hide (by
     have:=HG.out;rw [List.take_of_length_le (by rw [Tr.len_list];omega),List.take_of_length_le (by rw [Tr.len_list];omega)] at this;exact decide_eq_true (Tr.list_inj this))
    go_wp2_with fail;go_ret;exact ⟨ret_bool HD.out.symm,HB.out⟩
 ·have t0:((t1.len:Int) == t2.len) = false:=by rw [beq_eq_false_iff_ne];omega
  have t1x:((t1.len:Int) != t2.len) = true:=by rw [bne,t0];rfl
  have HD:Hid (decide (t1 = t2) = false):=hide (decide_eq_false (fun e=>hl (by rw [e])));clear hl;go_enter Tryz.func14,Tryz.ntmps14;go_wp2_with fail;go_ret;exact ⟨ret_bool HD.out.symm,0,rfl⟩
theorem same14_all:∀ n,SameP n
 | 0=>fun v1 v2 t1 t2 w h=>absurd h (Nat.not_lt_zero _)
 | n + 1=>same14_step n (same14_all n)
theorem same14_any (v1 v2:Value) (t1 t2:Tr) (w:World) (hn:t1.count < 1048576) (h1:NodesIn w v1 t1) (h2:NodesIn w v2 t2) (ha:t1.all attrsFew = true) :
  Calls Tryz.prog 14 #[v1,v2] w fun e w'=>e = .returned (.bool (decide (t1 = t2))) /\ ∃ m,w' = w.drewN m :=
 same14_all (t1.count + 1) v1 v2 t1 t2 w (Nat.lt_succ_self _) hn h1 h2 ha
theorem slEqual_any (v1 v2:Value) (l1 l2:List AtL) (w:World) (h1:AttrsIn w v1 l1) (h2:AttrsIn w v2 l2) (hn:l1.length <= 1048576) :
  Calls Tryz.prog 77 #[v1,v2] w fun e w'=>e = .returned (.bool (decide (l1 = l2))) /\ ∃ m,w' = w.drewN m:=by
 obtain ⟨A1,c1,rfl⟩:=h1.form;obtain ⟨A2,c2,rfl⟩:=h2.form;have H1:=hide h1;have H2:=hide h2;clear h1 h2
 by_cases hl:l1.length = l2.length
 ·have t0:((l1.length:Int) == l2.length) = true:=by rw [beq_iff_eq];omega
  have t1:((l1.length:Int) != l2.length) = false:=by rw [bne,t0];rfl
  go_enter Tryz.func77,Tryz.ntmps77;go_wp2_with fail;go_loopw [13] (fun i wr=>∃ k:Nat,k <= l1.length /\ i = .int .i64 k /\ Hid (∃ m,wr = w.drewN m) /\ Hid (l1.take k = l2.take k)) (fun i _=>l1.length - (intOf i).toNat)
  case atStart=>exact ⟨0,Nat.zero_le _,rfl,hide ⟨0,rfl⟩,hide rfl⟩
  case round =>
   obtain ⟨k,hk,rfl,HB,HG⟩:=hrel
   by_cases hlt:k < l1.length
   ·obtain ⟨f,hf⟩:∃ f,l1[k]? = some f:=⟨_,List.getElem?_eq_getElem hlt⟩
    obtain ⟨g,hg⟩:∃ g,l2[k]? = some g:=⟨_,List.getElem?_eq_getElem (by omega)⟩
    obtain ⟨a,ha,hc1,hc2⟩:=(H1.out.kept (below_of13 HB.out)).at k f hf;obtain ⟨b,hb,hd1,hd2⟩:=(H2.out.kept (below_of13 HB.out)).at k g hg;subst ha hb;have hlt2:k < l2.length:=by omega
    obtain ⟨X1,hX1⟩:∃ X,X = str f.1:=⟨_,rfl⟩
    obtain ⟨X2,hX2⟩:∃ X,X = str f.2:=⟨_,rfl⟩
    obtain ⟨Y1,hY1⟩:∃ X,X = str g.1:=⟨_,rfl⟩
    obtain ⟨Y2,hY2⟩:∃ X,X = str g.2:=⟨_,rfl⟩
    rw [<- hX1] at hc1;rw [<- hX2] at hc2;rw [<- hY1] at hd1;rw [<- hY2] at hd2
    by_cases he:f = g
    ·have e1:X1 = Y1:=by rw [hX1,hY1,he]
     have e2:X2 = Y2:=by rw [hX2,hY2,he]
     subst e1 e2;have HN:Hid (l1.take (k + 1) = l2.take (k + 1)):=hide (by rw [List.take_add_one,List.take_add_one,HG.out,hf,hg,he]);clear he hf hg hX1 hX2 hY1 hY2;rw [<- hl] at *;go_wp2_with fail;go_quiet (fail);go_wp2_with fail;go_roundw
     case rel=>exact ⟨k + 1,by omega,by go_num,hide (drew_on HB.out nq),HN⟩
     case measure=>simp [intOf];omega
    ·have HD:Hid (decide (l1 = l2) = false):=hide (decide_eq_false (fun e=>he (by rw [e,hg] at hf;exact (Option.some.inj hf).symm)))
     by_cases he1:f.1 = g.1
     ·have he2:f.2 ≠ g.2:=fun e=>he (Prod.ext he1 e)
      have e1:X1 = Y1:=by rw [hX1,hY1,he1]
      have t2:(X2.toList == Y2.toList) = false:=by
       rw [hX2,hY2,bytes_list,bytes_list,str_toList,str_toList];exact beq_eq_false_iff_ne.2 he2
      subst e1;clear he he1 he2 hf hg hX1 hX2 hY1 hY2;go_wp2_with fail;go_quiet (fail);go_wp2_with fail;go_ret;exact ⟨ret_bool HD.out.symm,drew_on HB.out nq⟩
     ·have t2:(X1.toList == Y1.toList) = false:=by
       rw [hX1,hY1,bytes_list,bytes_list,str_toList,str_toList];exact beq_eq_false_iff_ne.2 he1
      clear he he1 hf hg hX1 hX2 hY1 hY2;go_wp2_with fail;go_quiet (fail);go_wp2_with fail;go_ret;exact ⟨ret_bool HD.out.symm,drew_on HB.out nq⟩
   ·have HD:Hid (decide (l1 = l2) = true):=hide (decide_eq_true (by
     have:=HG.out
     rwa [List.take_of_length_le (by omega),List.take_of_length_le (by omega)] at this))
    go_wp2_with fail;go_ret;exact ⟨ret_bool HD.out.symm,HB.out⟩
 ·have t0:((l1.length:Int) == l2.length) = false:=by rw [beq_eq_false_iff_ne];omega
  have t1:((l1.length:Int) != l2.length) = true:=by rw [bne,t0];rfl
  have HD:Hid (decide (l1 = l2) = false):=hide (decide_eq_false (fun e=>hl (by rw [e])));clear hl;go_enter Tryz.func77,Tryz.ntmps77;go_wp2_with fail;go_ret;exact ⟨ret_bool HD.out.symm,0,rfl⟩
def samF (g:Nat):Value:=.func (.func 76) #[] #[.pointer (some ⟨g,0,none⟩)]
def SamC (w:World) (g:Nat):Prop:=g < w.heap.size /\ w.cell? ⟨g,0,none⟩ = some (samF g)
theorem SamC.kept {w w':World} {g:Nat} (h:SamC w g) (hb:Below w.heap.size w w'):SamC w' g :=
 ⟨Nat.lt_of_lt_of_le h.1 hb.size,(World.cell?_of_block (hb.block g h.1)).trans h.2⟩
def EqfP (N:Nat):Prop:=∀ (v1 v2:Value) (t1 t2:Tr) (w:World) (g:Nat),t1.count < N -> N <= 1000000 -> NodesIn w v1 t1 -> NodesIn w v2 t2 -> t1.all attrsFew = true -> SamC w g ->
    Calls Tryz.prog 78 #[v1,v2,samF g] w fun e w'=>e = .returned (.bool (decide (t1 = t2))) /\ Below w.heap.size w w'
theorem bl_two {w w1 w2:World} (h:Below w.heap.size w w1) (h2:Below w1.heap.size w1 w2):Below w.heap.size w w2:=h.trans (h2.mono h.size)
theorem sameNode_of (N:Nat) (IH:EqfP N) (h1 h2:NdH) (K1 K2:Tr) (A1 A2 A3 A4:Option Addr) (c1 c2 c3 c4:Nat) (w:World) (g:Nat) (hN:N <= 1000000) (hc:K1.count < N)
  (ha1:AttrsIn w (.slice A1 h1.attrs.length c1) h1.attrs) (ha2:AttrsIn w (.slice A3 h2.attrs.length c3) h2.attrs) (hk1:NodesIn w (.slice A2 K1.len c2) K1) (hk2:NodesIn w (.slice A4 K2.len c4) K2) (hf:attrsFew h1 = true) (hff:K1.all attrsFew = true) (hs:SamC w g) :
  Calls Tryz.prog 76 #[.agg #[.string (str h1.name),.slice A1 h1.attrs.length c1,.string (str h1.text),.slice A2 K1.len c2],.agg #[.string (str h2.name),.slice A3 h2.attrs.length c3,.string (str h2.text),.slice A4 K2.len c4],.pointer (some ⟨g,0,none⟩)] w fun e w'=>e = .returned (.bool (decide ((h1,K1) = (h2,K2)))) /\ Below w.heap.size w w':=by
 obtain ⟨X1,hX1⟩:∃ X,X = str h1.name:=⟨_,rfl⟩
 obtain ⟨X2,hX2⟩:∃ X,X = str h2.name:=⟨_,rfl⟩
 obtain ⟨Y1,hY1⟩:∃ X,X = str h1.text:=⟨_,rfl⟩
 obtain ⟨Y2,hY2⟩:∃ X,X = str h2.text:=⟨_,rfl⟩
 obtain ⟨D,hD⟩:∃ D,D = decide ((h1,K1) = (h2,K2)):=⟨_,rfl⟩
 rw [<- hX1,<- hX2,<- hY1,<- hY2,<- hD];obtain ⟨W1,hW1⟩:∃ W,W = w.alloc (Obj.cells #[.string X1,.slice A1 h1.attrs.length c1,.string Y1,.slice A2 K1.len c2] 33):=⟨_,rfl⟩
 obtain ⟨W,hW⟩:∃ W,W = W1.alloc (Obj.cells #[.string X2,.slice A3 h2.attrs.length c3,.string Y2,.slice A4 K2.len c4] 33):=⟨_,rfl⟩
 have hb1:Below w.heap.size w W1:=by rw [hW1];exact below_one w _
 have hbw:Below W1.heap.size W1 W:=by rw [hW];exact below_one W1 _
 have hb2:=bl_two hb1 hbw;have hz1:W1.heap.size = w.heap.size + 1:=by rw [hW1,World.size_alloc]
 have g1:W.heap[w.heap.size]? = some (Obj.cells #[.string X1,.slice A1 h1.attrs.length c1,.string Y1,.slice A2 K1.len c2] 33 (0,0)):=(hbw.block _ (by omega)).trans (by rw [hW1];exact heap_alloc_new w _);have g2:W.heap[w.heap.size + 1]? = some (Obj.cells #[.string X2,.slice A3 h2.attrs.length c3,.string Y2,.slice A4 K2.len c4] 33 (0,0)):=by rw [<- hz1,hW];exact heap_alloc_new W1 _
 have hCE:∀ w',Below w.heap.size w w' -> (∀ k:Nat,k < W.heap.size -> w'.heap[k]? = W.heap[k]?) -> (w'.cell? ⟨w.heap.size,1,none⟩ = some (.slice A1 h1.attrs.length c1) /\ w'.cell? ⟨w.heap.size,2,none⟩ = some (.string Y1) /\ w'.cell? ⟨w.heap.size,3,none⟩ = some (.slice A2 K1.len c2) /\ w'.cell? ⟨w.heap.size + 1,1,none⟩ = some (.slice A3 h2.attrs.length c3) /\ w'.cell? ⟨w.heap.size + 1,2,none⟩ = some (.string Y2) /\ w'.cell? ⟨w.heap.size + 1,3,none⟩ = some (.slice A4 K2.len c4)) /\ w'.cell? ⟨g,0,none⟩ = some (samF g):=fun w' hb hk=>by
  have e1:=(hk _ (lt_of_block g1)).trans g1;have e2:=(hk _ (lt_of_block g2)).trans g2;exact ⟨⟨(Lib.cell_of_heap e1 1).trans rfl,(Lib.cell_of_heap e1 2).trans rfl,(Lib.cell_of_heap e1 3).trans rfl,(Lib.cell_of_heap e2 1).trans rfl,(Lib.cell_of_heap e2 2).trans rfl,(Lib.cell_of_heap e2 3).trans rfl⟩,(hs.kept hb).2⟩
 have HCE:=hide hCE;have HSA:Hid (∀ w',Below w.heap.size w w' -> Calls Tryz.prog 77 #[.slice A1 h1.attrs.length c1,.slice A3 h2.attrs.length c3] w' fun e w''=>e = .returned (.bool (decide (h1.attrs = h2.attrs))) /\ ∃ m,w'' = w'.drewN m):=hide (fun w' hb=>slEqual_any _ _ _ _ w' (ha1.kept hb) (ha2.kept hb) (by simpa [attrsFew] using hf));have HEQ:Hid (∀ w',Below w.heap.size w w' -> Calls Tryz.prog 78 #[.slice A2 K1.len c2,.slice A4 K2.len c4,samF g] w' fun e w''=>e = .returned (.bool (decide (K1 = K2))) /\ Below w'.heap.size w' w''):=hide (fun w' hb=>IH _ _ K1 K2 w' g hc hN (hk1.kept hb) (hk2.kept hb) hff (hs.kept hb));have HB2:=hide hb2;have HW1:=hide hW1;have HW:=hide hW;have hd1:h1.name ≠ h2.name -> D = false:=fun h=>by rw [hD];exact decide_eq_false (fun e=>h (congrArg (fun z:NdH × Tr=>z.1.name) e))
 have hd2:h1.text ≠ h2.text -> D = false:=fun h=>by rw [hD];exact decide_eq_false (fun e=>h (congrArg (fun z:NdH × Tr=>z.1.text) e))
 have hd3:h1.attrs ≠ h2.attrs -> D = false:=fun h=>by rw [hD];exact decide_eq_false (fun e=>h (congrArg (fun z:NdH × Tr=>z.1.attrs) e))
 have hd4:h1.name = h2.name -> h1.text = h2.text -> h1.attrs = h2.attrs -> D = decide (K1 = K2):=fun e1 e2 e3=>by
  rw [hD];have eh:h1 = h2:=by cases h1;cases h2;simp only at e1 e2 e3;rw [e1,e2,e3]
  rw [eh]
  by_cases hk:K1 = K2
  ·rw [hk];simp
  ·rw [decide_eq_false hk];exact decide_eq_false (fun e=>hk (congrArg Prod.snd e))
 clear hCE hb1 hbw hb2 hz1 g1 g2 hW1 hW ha1 ha2 hk1 hk2 hf hff hs hc hN IH hD
 by_cases n1:h1.name = h2.name
 ·obtain rfl:X1 = X2:=by rw [hX1,hX2,n1]
  by_cases n2:h1.text = h2.text
  ·obtain rfl:Y1 = Y2:=by rw [hY1,hY2,n2]
   by_cases n3:h1.attrs = h2.attrs
   ·have HD:=hide (hd4 n1 n2 n3);rw [decide_eq_true n3] at HSA;clear hd1 hd2 hd3 hd4 n1 n2 n3 hX1 hX2 hY1 hY2;go_enter Tryz.func76,Tryz.ntmps76;go_wp2_with fail;rw [<- HW1.out,<- HW.out];refine (HSA.out _ HB2.out).mono ?_;rintro e w3 ⟨rfl,hq⟩;have hb3:=bl_two HB2.out (below_of13 hq);obtain ⟨⟨d1,d2,d3,d4,d5,d6⟩,d7⟩:=HCE.out w3 hb3 (by obtain ⟨q,rfl⟩:=hq;intro k _;rfl);have HB3:=hide hb3;clear hq hb3;go_wp2_with fail;refine (HEQ.out _ HB3.out).mono ?_;rintro e w4 ⟨rfl,hb4⟩;have HB4:=hide (bl_two HB3.out hb4);clear hb4;rw [<- HD.out];go_wp2_with fail;go_ret;exact ⟨rfl,HB4.out⟩
   ·have HD:=hide (hd3 n3);rw [decide_eq_false n3] at HSA;clear hd1 hd2 hd3 hd4 n1 n2 n3 hX1 hX2 hY1 hY2;go_enter Tryz.func76,Tryz.ntmps76;go_wp2_with fail;rw [<- HW1.out,<- HW.out];refine (HSA.out _ HB2.out).mono ?_;rintro e w3 ⟨rfl,hq⟩;have HB3:=hide (bl_two HB2.out (below_of13 hq));clear hq;go_wp2_with fail;go_ret;exact ⟨ret_bool HD.out.symm,HB3.out⟩
  ·have HD:=hide (hd2 n2)
   have t2:(Y1.toList == Y2.toList) = false:=by
    rw [hY1,hY2,bytes_list,bytes_list,str_toList,str_toList];exact beq_eq_false_iff_ne.2 n2
   clear hd1 hd2 hd3 hd4 n1 n2 hX1 hX2 hY1 hY2;go_enter Tryz.func76,Tryz.ntmps76;go_wp2_with fail;go_ret;exact ⟨ret_bool HD.out.symm,by rw [<- HW1.out,<- HW.out];exact HB2.out⟩
 ·have HD:=hide (hd1 n1)
  have t2:(X1.toList == X2.toList) = false:=by
   rw [hX1,hX2,bytes_list,bytes_list,str_toList,str_toList];exact beq_eq_false_iff_ne.2 n1
  clear hd1 hd2 hd3 hd4 n1 hX1 hX2 hY1 hY2;go_enter Tryz.func76,Tryz.ntmps76;go_wp2_with fail;go_ret;exact ⟨ret_bool HD.out.symm,by rw [<- HW1.out,<- HW.out];exact HB2.out⟩
theorem eqf_step (n:Nat) (IH:EqfP n):EqfP (n + 1):=by
 intro v1 v2 t1 t2 w g hn hN h1 h2 ha hs;have hn1:t1.len <= 1048576:=Nat.le_trans (Tr.len_count t1) (by omega);obtain ⟨A1,c1,rfl⟩:=NodesC.form h1;obtain ⟨A2,c2,rfl⟩:=NodesC.form h2;have H1:=hide h1;have H2:=hide h2;have HAL:=hide ha;have HSC:=hide hs;have HIH:=hide IH;clear h1 h2 ha IH hs;unfold samF
 by_cases hl:t1.len = t2.len
 ·have t0:((t1.len:Int) == t2.len) = true:=by rw [beq_iff_eq];omega
  have t1x:((t1.len:Int) != t2.len) = false:=by rw [bne,t0];rfl
  have HL:=hide hl;clear hl;go_enter Tryz.func78,Tryz.ntmps78;go_wp2_with fail;go_loopw [17] (fun i wr=>∃ k:Nat,k <= t1.len /\ i = .int .i64 k /\ Hid (Below w.heap.size w wr) /\ Hid (t1.list.take k = t2.list.take k)) (fun i _=>t1.len - (intOf i).toNat)
  case atStart=>exact ⟨0,Nat.zero_le _,rfl,hide (Below.refl _ _),hide rfl⟩
  case round =>
   obtain ⟨k,hk,rfl,HB,HG⟩:=hrel
   by_cases hlt:k < t1.len
   ·obtain ⟨⟨f,K⟩,hf⟩:∃ f,t1.list[k]? = some f:=⟨_,List.getElem?_eq_getElem (by rw [Tr.len_list];exact hlt)⟩
    obtain ⟨⟨h,L⟩,hg⟩:∃ g,t2.list[k]? = some g:=⟨_,List.getElem?_eq_getElem (by rw [Tr.len_list];have:=HL.out;omega)⟩
    have hlt2:k < t2.len:=by have:=HL.out;omega
    have hI1:=H1.out.kept HB.out;obtain ⟨a,d,x,y,z,m,ha,-,p1,p2,hA,p3,p4,hm,hK⟩:=NodesC.at hI1 k f K hf;subst ha hm;have hb1:=below_one wr (Obj.cells #[.string (str f.name),.slice d f.attrs.length y,.string (str f.text),.slice x K.len z] 33);have hI2:=H2.out.kept (bl_two HB.out hb1);obtain ⟨b,d',x',y',z',m',hb,-,q1,q2,hB,q3,q4,hm',hL⟩:=NodesC.at hI2 k h L hg;subst hb hm';have hKc:=Tr.at_count hf;obtain ⟨haf,haK⟩:=Tr.all_at HAL.out hf;have hb3:=below_one (wr.alloc (Obj.cells #[.string (str f.name),.slice d f.attrs.length y,.string (str f.text),.slice x K.len z] 33)) (Obj.cells #[.string (str h.name),.slice d' h.attrs.length y',.string (str h.text),.slice x' L.len z'] 33);have hb2:=bl_two hb1 hb3;have HSM:=hide (sameNode_of n HIH.out f h K L d x d' x' y z y' z' _ g (by omega) (by omega) (hA.1.kept hb2) (hB.1.kept hb3) (NodesIn.kept hK hb2) (NodesIn.kept hL hb3) haf haK ((HSC.out.kept HB.out).kept hb2));have HB2:=hide (bl_two HB.out hb2);have HF:=hide hf;have HGG:=hide hg;clear hI1 hI2 hA hB hK hL hb1 hb2 hb3 hKc haf haK hf hg
    by_cases he:(f,K) = (h,L)
    ·have HN:Hid (t1.list.take (k + 1) = t2.list.take (k + 1)):=hide (by rw [List.take_add_one,List.take_add_one,HG.out,HF.out,HGG.out,he]);rw [decide_eq_true he] at HSM;clear he HF HGG;go_wp2_with fail;refine HSM.out.mono ?_;rintro e w3 ⟨rfl,hb3⟩;have HB3:=hide (bl_two HB2.out hb3);clear hb3;go_wp2_with fail;go_roundw
     case rel=>exact ⟨k + 1,by omega,by go_num,HB3,HN⟩
     case measure=>simp [intOf];omega
    ·have HD:Hid (decide (t1 = t2) = false):=hide (decide_eq_false (fun e=>he (by have hf:=HF.out;rw [e,HGG.out] at hf;exact (Option.some.inj hf).symm)));rw [decide_eq_false he] at HSM;clear he HF HGG;go_wp2_with fail;refine HSM.out.mono ?_;rintro e w3 ⟨rfl,hb3⟩;have HB3:=hide (bl_two HB2.out hb3);clear hb3;go_wp2_with fail;go_ret;exact ⟨ret_bool HD.out.symm,HB3.out⟩
   ·have HD:Hid (decide (t1 = t2) = true):=hide (decide_eq_true (by
     have:=HG.out;rw [List.take_of_length_le (by rw [Tr.len_list];omega),List.take_of_length_le (by rw [Tr.len_list];have:=HL.out;omega)] at this;exact Tr.list_inj this))
    go_wp2_with fail;go_ret;exact ⟨ret_bool HD.out.symm,HB.out⟩
 ·have t0:((t1.len:Int) == t2.len) = false:=by rw [beq_eq_false_iff_ne];omega
  have t1x:((t1.len:Int) != t2.len) = true:=by rw [bne,t0];rfl
  have HD:Hid (decide (t1 = t2) = false):=hide (decide_eq_false (fun e=>hl (by rw [e])));clear hl;go_enter Tryz.func78,Tryz.ntmps78;go_wp2_with fail;go_ret;exact ⟨ret_bool HD.out.symm,Below.refl _ _⟩
theorem eqf_all:∀ n,EqfP n
 | 0=>fun v1 v2 t1 t2 w g h=>absurd h (Nat.not_lt_zero _)
 | n + 1=>eqf_step n (eqf_all n)
theorem serSame_any (v1 v2:Value) (t1 t2:Tr) (w:World) (hn:t1.count < 1000000) (h1:NodesIn w v1 t1) (h2:NodesIn w v2 t2) (ha:t1.all attrsFew = true) :
  Calls Tryz.prog 30 #[v1,v2] w fun e w'=>e = .returned (.bool (decide (t1 = t2))) /\ Below w.heap.size w w':=by
 obtain ⟨A1,c1,rfl⟩:=NodesC.form h1;obtain ⟨A2,c2,rfl⟩:=NodesC.form h2;have hmf:∀ (fn:Fn) (first cap:Array Value) (w:World),(Instr.makeFunc fn first cap).run Tryz.prog w = .ok (.func fn first cap) w:=fun _ _ _ _=>rfl
 have hst:=fun (a:Addr) (w:World) (fn:Fn) (x y:Array Value)=>run_store Tryz.prog w a (.func fn x y) .plain rfl
 have HQ:Hid (∀ w',Below w.heap.size w w' -> SamC w' w.heap.size -> Calls Tryz.prog 78 #[.slice A1 t1.len c1,.slice A2 t2.len c2,samF w.heap.size] w' fun e w''=>e = .returned (.bool (decide (t1 = t2))) /\ Below w'.heap.size w' w''):=hide (fun w' hb hs =>
  eqf_all (t1.count + 1) _ _ t1 t2 w' w.heap.size (Nat.lt_succ_self _) (by omega) (h1.kept hb) (h2.kept hb) ha hs)
 clear h1 h2 ha;go_enter Tryz.func30,Tryz.ntmps30;go_wp2_with fail;have hb:=below_one w (Obj.cells #[samF w.heap.size] 102);refine (HQ.out _ hb ⟨by rw [World.size_alloc];omega,(World.cell?_alloc_at _ _ _ _ rfl).trans rfl⟩).mono ?_;rintro e w1 ⟨rfl,hb1⟩;have HB:=hide (bl_two hb hb1);clear hb hb1;go_wp2_with fail;go_ret;exact ⟨rfl,HB.out⟩
def kidsW (l:List (NdH × Tr)):Nat:=(Tr.of l).count
theorem kidsW_append (a b:List (NdH × Tr)):kidsW (a ++ b) = kidsW a + kidsW b:=by
 induction a with
 | nil=>simp [kidsW,Tr.of,Tr.count]
 | cons p r ih=>obtain ⟨h,k⟩:=p;simp only [kidsW,List.cons_append,Tr.of,Tr.count] at ih ⊢;omega
theorem kidsW_len (l:List (NdH × Tr)):l.length <= kidsW l:=by rw [<- Tr.len_of];exact Tr.len_count _
def tailW (x:List UInt8):Nat:=if x = [] then 0 else 1
def PartL.wt (p:PartL):Nat:=kidsW p.kids + tailW p.tail
def stW:List PartL -> Nat
  | []=>0
  | [p]=>p.wt
  | p :: r=>p.wt + 1 + stW r
theorem stW_cons (p q:PartL) (r:List PartL):stW (p :: q :: r) = p.wt + 1 + stW (q :: r):=rfl
theorem endText_wt (p:PartL):(endTextL p).wt = p.wt:=by
 unfold endTextL;split
 ·rfl
 ·rename_i h;simp only [PartL.wt,kidsW_append,tailW,if_neg h,if_true];simp [kidsW,textNd,Tr.of,Tr.count]
theorem endText_tail (p:PartL):(endTextL p).tail = []:=by unfold endTextL;split <;> first | assumption | rfl
theorem endText_head (p:PartL):(endTextL p).name = p.name /\ (endTextL p).attrs = p.attrs:=by unfold endTextL;split <;> exact ⟨rfl,rfl⟩
theorem endText_kids_wt (p:PartL):kidsW (endTextL p).kids = p.wt:=by
 have:=endText_wt p;rw [<- this,PartL.wt,endText_tail];rfl
theorem node_wt (p:PartL):kidsW [p.node] = 1 + kidsW p.kids:=by simp [kidsW,PartL.node,Tr.of,Tr.count]
theorem closeTop_wt (st:List PartL):stW (closeTop st) = stW st:=by
 match st with
 | []=>rfl
 | [p]=>rfl
 | p :: q :: r =>
  have h1:({ q with kids:=q.kids ++ [(endTextL p).node] }:PartL).wt = q.wt + (1 + p.wt):=by
   simp only [PartL.wt,kidsW_append,node_wt,endText_kids_wt];omega
  cases r with
  | nil=>show PartL.wt _ = p.wt + 1 + q.wt;rw [h1];omega
  | cons x y=>show PartL.wt _ + 1 + stW (x :: y) = p.wt + 1 + (q.wt + 1 + stW (x :: y));rw [h1];omega
theorem closeN_wt (n:Nat) (st:List PartL):stW (closeN n st) = stW st:=by
 induction n generalizing st with
 | zero=>rfl
 | succ n ih=>rw [closeN,ih,closeTop_wt]
theorem closeAll_wt (is:List UInt8 -> Bool) (f:Nat) (st:List PartL):stW (closeAll is f st) = stW st:=by
 induction f generalizing st with
 | zero=>rfl
 | succ f ih =>
  rw [closeAll];split
  ·rfl
  ·rw [ih,closeN_wt]
theorem stW_head {p p':PartL} (r:List PartL) (k:Nat) (h:p'.wt = p.wt + k):stW (p' :: r) = stW (p :: r) + k:=by
 cases r with
 | nil=>exact h
 | cons q r=>rw [stW_cons,stW_cons,h];omega
theorem putP_cons (t:TokL) (p:PartL) (r:List PartL) (n:Nat):putP t (p :: r) n = if voidB t.name = true \/ 30 < (p :: r).length then ({ endTextL p with kids:=(endTextL p).kids ++ [(⟨t.name,t.attrs,[]⟩,Tr.nil)] } :: r,n + 1)
  else (⟨t.name,t.attrs,[],[]⟩ :: endTextL p :: r,n + 1):=rfl
theorem charsP_cons (x:List UInt8) (p:PartL) (r:List PartL) (n:Nat):charsP x (p :: r,n) = if p.tail = [] then (if n = 5000 then (p :: r,n) else ({ p with tail:=x } :: r,n + 1)) else ({ p with tail:=p.tail ++ x } :: r,n):=rfl
theorem put_wt (t:TokL) (st:List PartL) (n:Nat) (hs:st ≠ []):stW (putP t st n).1 = stW st + 1 /\ (putP t st n).2 = n + 1 /\ (putP t st n).1 ≠ [] /\ (putP t st n).1.length <= max st.length 31:=by
 match st,hs with
 | p :: r,_ =>
  rw [putP_cons];split
  ·refine ⟨?_,rfl,by simp,by simp only [List.length_cons];omega⟩;refine stW_head r 1 ?_;have:=endText_wt p;unfold PartL.wt at this ⊢;rw [kidsW_append,<- this];simp only [kidsW,Tr.of,Tr.count];omega
  ·rename_i hc;refine ⟨?_,rfl,by simp,by simp only [not_or,List.length_cons] at hc ⊢;omega⟩;show stW (⟨t.name,t.attrs,[],[]⟩ :: endTextL p :: r) = _
   rw [stW_cons,stW_head (p:=p) r 0 (by rw [endText_wt];rfl)];simp [PartL.wt,kidsW,tailW,Tr.of,Tr.count];omega
def OkS (s:BsL):Prop:=s.1 ≠ [] /\ stW s.1 <= s.2 /\ s.2 <= 5000 /\ s.1.length <= 31
theorem tok_ok {s:BsL} (h:OkS s) (t:TokL):OkS (tokB s t) /\ (tokB s t).2 <= s.2 + 1:=by
 obtain ⟨st,n⟩:=s;obtain ⟨h1,h2,h3,h4⟩:=h;simp only at h1 h2 h3 h4;unfold tokB;split
 ·match st,h1 with
  | p :: r,h1 =>
   rw [charsP_cons];split
   ·rename_i ht;split
    ·exact ⟨⟨h1,h2,h3,h4⟩,Nat.le_succ _⟩
    ·rename_i hn;refine ⟨⟨by simp,?_,by simp only;omega,h4⟩,Nat.le_refl _⟩;have:stW ({ p with tail:=t.text } :: r) = stW (p :: r) + tailW t.text:=stW_head r _ (by simp [PartL.wt,ht,tailW]);rw [this];have:tailW t.text <= 1:=by unfold tailW;split <;> omega
     omega
   ·rename_i ht;refine ⟨⟨by simp,?_,h3,h4⟩,Nat.le_succ _⟩;have:stW ({ p with tail:=p.tail ++ t.text } :: r) = stW (p :: r) + 0:=stW_head r _ (by simp [PartL.wt,ht,tailW]);rw [this];exact h2
 ·split
  ·unfold startP;simp only;have g1:=closeAll_wt (closesB t.name) st.length st;have g2:=closeAll_length (closesB t.name) st.length st;split
   ·exact ⟨⟨g2.2 h1,by rw [g1];exact h2,h3,Nat.le_trans g2.1 h4⟩,Nat.le_succ _⟩
   ·rename_i hn;obtain ⟨p1,p2,p3,p4⟩:=put_wt t (closeAll (closesB t.name) st.length st) n (g2.2 h1);refine ⟨⟨p3,?_,by rw [p2];omega,by omega⟩,by rw [p2];exact Nat.le_refl _⟩;rw [p1,p2,g1];omega
  ·split
   ·unfold endP;simp only;split
    ·exact ⟨⟨h1,h2,h3,h4⟩,Nat.le_succ _⟩
    ·rename_i k hk;obtain ⟨k1,k2⟩:=findP_lt hk;have:=closeN_length k st k2;exact ⟨⟨fun e=>by have e:closeN k st = []:=e;rw [e] at this;simp only [List.length_nil] at this;omega,by simp only [closeN_wt];exact h2,h3,by simp only;omega⟩,Nat.le_succ _⟩
   ·exact ⟨⟨h1,h2,h3,h4⟩,Nat.le_succ _⟩
theorem ok_root:OkS ([rootL],0):=⟨by simp,Nat.le_refl _,by omega,by simp⟩
theorem fold_ok (L:List TokL) {s:BsL} (h:OkS s):OkS (L.foldl tokB s) /\ (L.foldl tokB s).2 <= s.2 + L.length:=by
 induction L generalizing s with
 | nil=>exact ⟨h,Nat.le_refl _⟩
 | cons t r ih =>
  obtain ⟨a,b⟩:=tok_ok h t;obtain ⟨c,d⟩:=ih a;exact ⟨c,by simp only [List.foldl_cons,List.length_cons];omega⟩
theorem endTree_count (st:List PartL) (h:st ≠ []):(endTree st).count = stW st:=by
 unfold endTree;have hl:0 < st.length:=List.length_pos_iff.2 h;have h1:=closeN_length (st.length - 1) st (by omega);have h2:=closeN_wt (st.length - 1) st
 match hm:closeN (st.length - 1) st,h1 with
 | [p],_=>rw [hm] at h2;rw [<- h2];exact endText_kids_wt p
 | [],h1=>simp only [List.length_nil] at h1;omega
 | _ :: _ :: _,h1=>simp only [List.length_cons] at h1;omega
theorem build_count (L:List TokL):(buildP L).count <= 5000 /\ (buildP L).count <= L.length:=by
 obtain ⟨⟨h1,h2,h3,h4⟩,h5⟩:=fold_ok L ok_root;unfold buildP;rw [endTree_count _ h1];simp only at h5;omega
section
variable {P:Program} (w:World)
theorem run_append_own2 (base:Nat) (t ty e:TypeId) (i:TypeInfo) (z:Value) (size bytes:Nat) (ht:P.underlying t = some (.slice e)) (hi:P.info? e = some i) (hz:i.zero = some z)
  (hsize:i.size = size) (hby:i.bytes = bytes) (hzs:z.cells.size = size) (hsz:0 < size)
  (v:Value) (n:Nat) (xs:List Value) (hown:w.ownsRow base e size v n xs)
  (a:Addr) (m c:Nat) (news:List Value) (hl:news.length = m * size) (hnews:∀ j u,news[j]? = some u -> w.cell? (a.add j) = some u) (h1:∀ u ∈ news,u.oneCell' = true)
  (h63:n + m <= maxLen) (hbytes:(n + m) * bytes <= 140737488355328) (hbase:base <= w.heap.size) :
  ∃ v' w',(Builtin.append_ #[t,t] ty #[v,.slice (some a) m c]).run P w = .ok v' w' /\ w'.ownsRow base e size v' (n + m) (xs ++ news) /\ w.grownBy w' v.ownBlock /\
   (v'.ownBlock = v.ownBlock \/ v'.ownBlock = some w.heap.size):=by
 obtain ⟨v',w',hr,h2,h3,_⟩:=run_append_own (P:=P) w base t ty e i z size bytes ht hi hz hsize hby hzs hsz v n xs hown a m c news hl hnews h1 h63 hbytes hbase;refine ⟨v',w',hr,h2,h3,?_⟩;have hsmall:n + m <= 9223372036854775807:=by simp only [maxLen] at h63;omega
 subst hsize hby;rcases hown.2 with ⟨rfl,rfl⟩ | ⟨g,cap,cur,rfl,hbg,hg,hnc,hcm,hcs,htake⟩
 ·rcases Nat.eq_zero_or_pos m with hm | hm
  ·left;have hx:w'.ownsRow base e i.size v' 0 (xs ++ news):=by simpa [hm] using h2
   rcases hx.2 with ⟨rfl,_⟩ | ⟨g,cap,cur,rfl,_⟩
   ·rfl
   ·exfalso;subst hm;have hn:news = []:=List.eq_nil_of_length_eq_zero (by simpa using hl);subst hn;simp [Builtin.append_,run_underlying ht,sizeOf,typeInfo,hi,Builtin.lenOf,Builtin.firstCells,loadCells,loadCellsFrom] at hr
  ·have hr2:=run_append_nil (P:=P) w t ty e i z ht hi hz a m c news hl hnews hm (by omega) (by simp only [Nat.zero_add] at hbytes;omega);rw [hr] at hr2;injection hr2 with e1 e2;subst e1;exact .inr rfl
 ·by_cases hroom:n + m <= cap
  ·obtain ⟨w2,hr2,_⟩:=run_append_fits (P:=P) w base t ty e i i.size ht hi rfl g n cap xs hown a m c news hl hnews h1 hroom;rw [hr] at hr2;injection hr2 with e1 e2;subst e1;exact .inl rfl
  ·have holds:∀ j u,xs[j]? = some u -> w.cell? ((⟨g,0,none⟩:Addr).add j) = some u:=hown.cells (g:=g) rfl;have hr2:=run_append_grow (P:=P) w t ty e i z ht hi hz ⟨g,0,none⟩ n cap xs hown.1 holds a m c news hl hnews (by omega) (by omega) (growslice_fits (by omega) hbytes);rw [hr] at hr2;injection hr2 with e1 e2;subst e1;exact .inr rfl
theorem wp_append_own2 {o:Oper} {a:Act} {K:Act -> World -> Prop} {Q:Exit -> Act -> World -> Prop} (s x:Operand) (t:TypeId)
  (ho:o.op = .call { callee:=.builtin .append,args:=#[s,x],argTypes:=#[t,t] })
  (base:Nat) (e:TypeId) (i:TypeInfo) (z:Value) (size bytes:Nat) (ht:P.underlying t = some (.slice e)) (hi:P.info? e = some i) (hz:i.zero = some z)
  (hsize:i.size = size) (hby:i.bytes = bytes) (hzs:z.cells.size = size) (hsz:0 < size)
  (v:Value) (n:Nat) (xs:List Value) (hs:a.eval s = v) (hown:w.ownsRow base e size v n xs)
  (ad:Addr) (m c:Nat) (news:List Value) (hx:a.eval x = .slice (some ad) m c) (hl:news.length = m * size) (hnews:∀ j u,news[j]? = some u -> w.cell? (ad.add j) = some u) (h1:∀ u ∈ news,u.oneCell' = true)
  (h63:n + m <= maxLen) (hbytes:(n + m) * bytes <= 140737488355328) (hbase:base <= w.heap.size)
  (h:∀ v' w',w'.ownsRow base e size v' (n + m) (xs ++ news) -> w.grownBy w' v.ownBlock -> (v'.ownBlock = v.ownBlock \/ v'.ownBlock = some w.heap.size) -> K (a.put o.dst v') w'):o.wp P a w K Q:=by
 obtain ⟨v',w',hr,h2,h3,h4⟩:=run_append_own2 (P:=P) w base t o.type e i z size bytes ht hi hz hsize hby hzs hsz v n xs hown ad m c news hl hnews h1 h63 hbytes hbase;unfold Oper.wp execOp;simp only [ho,resolve,invoke,builtin,Sem.run_bind,Sem.run_pure,Result.andThen_ok,List.map_toArray,List.map_cons,List.map_nil,hs,hx,hr];exact h v' w' h2 h3 h4
theorem wpList_append_own2 {ops:Array Oper} {rest:List Oper} {o:Oper} {a:Act} {Q:Exit -> Act -> World -> Prop} (hgd:o.guard = none) (s x:Operand) (t:TypeId)
  (ho:o.op = .call { callee:=.builtin .append,args:=#[s,x],argTypes:=#[t,t] })
  (base:Nat) (e:TypeId) (i:TypeInfo) (z:Value) (size bytes:Nat) (ht:P.underlying t = some (.slice e)) (hi:P.info? e = some i) (hz:i.zero = some z)
  (hsize:i.size = size) (hby:i.bytes = bytes) (hzs:z.cells.size = size) (hsz:0 < size)
  (v:Value) (n:Nat) (xs:List Value) (hs:a.eval s = v) (hown:w.ownsRow base e size v n xs)
  (ad:Addr) (m c:Nat) (news:List Value) (hx:a.eval x = .slice (some ad) m c) (hl:news.length = m * size) (hnews:∀ j u,news[j]? = some u -> w.cell? (ad.add j) = some u) (h1:∀ u ∈ news,u.oneCell' = true)
  (h63:n + m <= maxLen) (hbytes:(n + m) * bytes <= 140737488355328) (hbase:base <= w.heap.size)
  (h:∀ v' w',w'.ownsRow base e size v' (n + m) (xs ++ news) -> w.grownBy w' v.ownBlock -> (v'.ownBlock = v.ownBlock \/ v'.ownBlock = some w.heap.size) -> wpList P ops Q rest (a.put o.dst v') w'):wpList P ops Q (o :: rest) a w :=
 wpList_plain hgd fun _ hK=>wp_append_own2 w s x t ho base e i z size bytes ht hi hz hsize hby hzs hsz v n xs hs hown ad m c news hx hl hnews h1 h63 hbytes hbase fun v' w' h2 h3 h4=>hK _ _ (h v' w' h2 h3 h4)
end
end Go.Proofs.YtiejmkjpgjbodaaGreatDoor
