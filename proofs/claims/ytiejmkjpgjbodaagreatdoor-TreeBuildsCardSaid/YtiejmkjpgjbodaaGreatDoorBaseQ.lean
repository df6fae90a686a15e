/- More of the first texts of this claim in one: each with its own head. No statement is proved here. -/
import Derived.Test.YtiejmkjpgjbodaaGreatDoorBaseP
import Derived.Test.YtiejmkjpgjbodaaGreatDoorBaseM
import Derived.Test.YtiejmkjpgjbodaaGreatDoorShelf
import Derived.Deep.QuietTactic
import Derived.BigQuiet
import Derived.Lib.Replace
import Derived.Test.YtiejmkjpgjbodaaGreatDoorBaseN
import Derived.Test.YtiejmkjpgjbodaaGreatDoorBaseO
import Derived.Deep.LoopGhost
import Derived.BigRegion
import Derived.Laws.Runes
import Derived.WalkMore
import Derived.Laws.RangeAny
import Derived.Shelf.Strings.IndexAnyAll
import Derived.Shelf.Strings.SlTrimAscii
import Derived.Deep.WholeRow
import Derived.Lib.SliceRun
import Derived.Deep.MidRow
import Derived.StillTailTactics
import Derived.Defers
import Derived.Laws.Pointers
import Derived.Laws.LoneSync
import Derived.RegionTactic
import Derived.RegionCalls
import Derived.ChangeAlike
import Derived.Laws.NewBlocks
import Derived.Laws.OwnMore
namespace Go.Proofs.YtiejmkjpgjbodaaGreatDoor
open Go.RowKit
set_option linter.unusedVariables false
set_option linter.unusedSimpArgs false
set_option maxRecDepth 100000
def KM (w w' : World) : Prop := ∀ (m : Nat) es c, w.heap[m]? = some (Obj.map es c) → w'.heap[m]? = some (Obj.map es c)
theorem KM.refl (w : World) : KM w w := fun _ _ _ h => h
theorem KM.trans {a b c : World} (h : KM a b) (k : KM b c) : KM a c := fun m es x hm => k m es x (h m es x hm)
theorem KM.alloc (w : World) (o : Obj) : KM w (w.alloc o) := fun m es x hm => (Below.heap_alloc w o m (Array.getElem?_eq_some_iff.1 hm).1).trans hm
theorem KM.below {w w' : World} (h : Below w.heap.size w w') : KM w w' := fun m es x hm => (h.block m (Array.getElem?_eq_some_iff.1 hm).1).trans hm
theorem KM.set {w : World} {b : Nat} {cs : Array Value} {t : TypeId} {fr : Nat × Nat} (h : w.heap[b]? = some (.cells cs t fr)) (i : Nat) (v : Value) : KM w (w.setCell ⟨b, i, none⟩ v) := fun m es x hm => by
  have hne : m ≠ b := by rintro rfl; rw [h] at hm; cases hm
  exact (Below.heap_setCell w _ v m hne).trans hm
theorem KM.own {w w' : World} {B n : Nat} {e : TypeId} {v : Value} {xs : List Value} (h : w.ownsRow B e 1 v n xs) (hg : w.grownBy w' v.ownBlock) : KM w w' := fun m es x hm => by
  refine (hg.block m (Array.getElem?_eq_some_iff.1 hm).1 (fun he => ?_)).trans hm
  rcases h.2 with ⟨rfl, _⟩ | ⟨g, cap, cur, rfl, _, hh, _⟩
  · simp [Value.ownBlock] at he
  · have e1 : g = m := by simpa [Value.ownBlock] using he.symm
    subst e1
    rw [hh] at hm; cases hm
theorem copyCheckM_any (B b : Nat) (bs : List Value) (w : World) (h : Lib.IsBuilder 78 5 B b bs w) :
    Calls Tryz.prog 103 #[.pointer (some ⟨b, 0, none⟩)] w fun e w' => e = .returned (.tuple #[]) ∧ Lib.BuilderAt 78 5 B b (.pointer (some ⟨b, 0, none⟩)) bs w' ∧ Below B w w' ∧ KM w w' := by
  rcases h with h | h
  · obtain ⟨hB, v, hbk, ho, hne⟩ := id h
    refine (copyCheck_fresh b w h.cell0 h.shape h.frozen0).mono ?_
    rintro e w' ⟨rfl, rfl⟩
    exact ⟨rfl, h.used _, (Below.refl B w).setCell (p := ⟨b, 0, none⟩) h.1 _, KM.set hbk _ _⟩
  · refine (copyCheck_used b w h.cell0).mono ?_
    rintro e w' ⟨rfl, rfl⟩
    exact ⟨rfl, h, Below.refl B _, KM.refl _⟩
set_option maxHeartbeats 1000000 in
theorem writeStringM_any (B b : Nat) (l : List UInt8) (s : ByteArray) (W0 w : World) (h : Bld B b l W0 w) (hlen : l.length + s.size ≤ 140737488355328) :
    Calls Tryz.prog 64 #[.pointer (some ⟨b, 0, none⟩), .string s] w fun e w' => e = .returned (.tuple #[.int .i64 s.size, .nilIface]) ∧ Bld B b (l ++ s.data.toList) W0 w' ∧ KM w w' := by
  obtain ⟨h, hbel, hBw⟩ := h
  obtain ⟨i0, hi, hz0, hz1, hz2⟩ := info_parts info_u8
  have HBL := hide hbel
  clear hbel
  go_enter Tryz.func64, Tryz.ntmps64
  go_wp2_with fail
  refine (copyCheckM_any B b (cellsOf l) _ h).mono ?_
  rintro e w1 ⟨rfl, h1, hb1, hk1⟩
  have HK1 := hide hk1
  clear hk1
  obtain ⟨hB, v, hbk, hown, hne⟩ := h1
  have c1 : w1.cell? ⟨b, 1, none⟩ = some v := by rw [Lib.cell_of_heap hbk]; rfl
  have hlt : b < w1.heap.size := lt_of_block hbk
  have hl1 : (cellsOf l).length = l.length := cellsOf_length l
  have HBK := hide hbk
  have HOWN := hide hown
  have HNE := hide hne
  have HB1 := hide hb1
  have hsz1 := hb1.size
  have HI := hide hi
  have HZ0 := hide hz0
  have HZ1 := hide hz1
  have HZ2 := hide hz2
  have HL1 := hide hl1
  clear hbk hown hne hb1 hi hz0 hz1 hz2 h
  go_wp2_with (refine Lib.wpList_append_own_string _ rfl _ _ 56 9 rfl B 5 i0 Tryz.underlying56 Tryz.underlying9 HI.out HZ0.out HZ1.out HZ2.out v (cellsOf l).length (cellsOf l) rfl HOWN.out s rfl (by rw [HL1.out]; unfold maxLen; omega) (by rw [HL1.out]; omega) (by omega) ?_
               intro v' w2 hown' hgrow _
               obtain ⟨ao, n', cap, rfl⟩ : ∃ ao n' cap, v' = .slice ao n' cap := by
                 rcases hown'.2 with ⟨hv, _⟩ | ⟨g, cap, cur, hv, _⟩
                 · exact ⟨_, _, _, hv⟩
                 · exact ⟨_, _, _, hv⟩
               have hb2 : w2.heap[b]? = some (.cells #[.pointer (some ⟨b, 0, none⟩), v] 78 (0, 0)) := by
                 rw [hgrow.block b hlt (fun e => HNE.out e.symm)]
                 exact HBK.out
               have d1 : w2.cell? ⟨b, 1, none⟩ = some v := by rw [Lib.cell_of_heap hb2]; rfl
               have f1 : w2.frozen? ⟨b, 1, none⟩ = false := Lib.frozen_of_heap hb2 1
               have HKM := hide (HK1.out.trans (KM.own HOWN.out hgrow))
               have HO2 := hide hown'
               have HG2 := hide hgrow
               have HB2 := hide hb2
               clear hown' hgrow hb2)
  go_ret2
  have hb3 : Below B w w2 := HB1.out.grown HG2.out (by omega) (fun k hk => (HOWN.out.lt k hk).1)
  refine ⟨rfl, ⟨.inr ?_, (HBL.out.trans hb3).setCell (p := ⟨b, 1, none⟩) hB _, ?_⟩, HKM.out.trans (KM.set HB2.out _ _)⟩
  · refine Lib.BuilderAt.put (T := 78) (e := 5) hB HB2.out (bs' := cellsOf (l ++ s.data.toList)) ?_ (by decide)
    have ho := HO2.out
    have e1 : cellsOf (l ++ s.data.toList) = cellsOf l ++ Lib.strCells s := by rw [cellsOf_str, cellsOf, List.map_append]; rfl
    rw [e1, List.length_append, Lib.strCells_length]
    exact ho
  · have := hb3.size
    simp [World.setCell]
    omega
end Go.Proofs.YtiejmkjpgjbodaaGreatDoor

namespace Go.Proofs.YtiejmkjpgjbodaaGreatDoor
open Go.RowKit
set_option linter.unusedVariables false
set_option linter.unusedSimpArgs false
set_option maxRecDepth 100000
theorem SMapN.km {w w' : World} {b n : Nat} {f : List UInt8 → Option Int} (h : SMapN w b n f) (hk : KM w w') : SMapN w' b n f := by
  obtain ⟨D, ⟨es, c, h1, h2, h3, h4⟩, h5⟩ := h
  exact ⟨D, ⟨es, c, hk b es c h1, h2, h3, h4⟩, h5⟩
set_option maxHeartbeats 2000000 in
theorem writeRuneM_any (B b : Nat) (l : List UInt8) (r : Int) (h0 : 0 ≤ r) (h1r : r ≤ 1114111) (W0 w : World) (h : Bld B b l W0 w) (hlen : l.length + 4 ≤ 140737488355328) :
    Calls Tryz.prog 119 #[.pointer (some ⟨b, 0, none⟩), .int .i32 r] w fun e w' => (∃ n, e = .returned (.tuple #[.int .i64 n, .nilIface])) ∧ Bld B b (l ++ runeL r) W0 w' ∧ KM w w' := by
  obtain ⟨h, hbel, hBw⟩ := h
  have HBL := hide hbel
  clear hbel
  go_enter Tryz.func119, Tryz.ntmps119
  go_wp2_with fail
  refine (copyCheckM_any B b (cellsOf l) _ h).mono ?_
  rintro e w1 ⟨rfl, h1, hb1, hk1⟩
  have HK1 := hide hk1
  clear hk1
  obtain ⟨hB, v, hbk, hown, hne⟩ := h1
  have c1 : w1.cell? ⟨b, 1, none⟩ = some v := by rw [Lib.cell_of_heap hbk]; rfl
  have hlt : b < w1.heap.size := lt_of_block hbk
  have hl1 : (cellsOf l).length = l.length := cellsOf_length l
  rw [hl1] at hown
  obtain ⟨A, cp, rfl⟩ : ∃ A cp, v = .slice A l.length cp := by
    rcases hown.2 with ⟨hv, hz⟩ | ⟨g, cap, cur, hv, _⟩
    · rw [hz]; exact ⟨_, _, hv⟩
    · exact ⟨_, _, hv⟩
  have HBK := hide hbk
  have HOWN := hide hown
  have HNE := hide hne
  have HB1 := hide hb1
  have hsz1 := hb1.size
  have HAR := hide (Tryz.utf8_AppendRune_plain B (.slice A l.length cp) l.length (cellsOf l) r (by omega) (by omega) w1 hown (by omega) (by omega))
  clear hbk hown hne hb1 h hl1
  go_wp2_with (go_at_call 147; refine HAR.out.mono ?_; rintro e w2 ⟨v', rfl, ho, o, hg⟩
               have e1 : Lib.runeCells r = cellsOf (runeL r) := (Lib.byteCells_encodeRune r).symm
               have e2 : (Lib.runeCells r).length = (runeL r).length := by rw [e1, cellsOf_length]
               rw [e2, e1] at ho
               obtain ⟨ao, cap, rfl⟩ : ∃ ao cap, v' = .slice ao (l.length + (runeL r).length) cap := by
                 rcases ho.2 with ⟨hv, hz⟩ | ⟨g, cap, cur, hv, _⟩
                 · rw [hz]; exact ⟨_, _, hv⟩
                 · exact ⟨_, _, hv⟩
               have hb2 : w2.heap[b]? = some (.cells #[.pointer (some ⟨b, 0, none⟩), .slice A l.length cp] 78 (0, 0)) := by
                 rw [hg.block b (Nat.lt_of_lt_of_le hlt ((Below.refl 0 w1).alloc (Nat.zero_le _) o).size) (fun e => HNE.out e.symm), Below.heap_alloc w1 o b hlt]
                 exact HBK.out
               have d1 : w2.cell? ⟨b, 1, none⟩ = some (.slice A l.length cp) := by rw [Lib.cell_of_heap hb2]; rfl
               have f1 : w2.frozen? ⟨b, 1, none⟩ = false := Lib.frozen_of_heap hb2 1
               obtain ⟨w3, hw3⟩ : ∃ w3, w3 = w2.setCell ⟨b, 1, none⟩ (.slice ao (l.length + (runeL r).length) cap) := ⟨_, rfl⟩
               have g1 : (w2.setCell ⟨b, 1, none⟩ (.slice ao (l.length + (runeL r).length) cap)).cell? ⟨b, 1, none⟩ = some (.slice ao (l.length + (runeL r).length) cap) := World.cell?_setCell_same _ _ _ d1
               have HKM := hide (HK1.out.trans ((KM.alloc w1 o).trans (KM.own (HOWN.out.alloc o) hg)))
               have HO2 := hide ho
               have HG2 : Hid (Below B w w2) := hide ((HB1.out.alloc (by omega) o).grown hg (Nat.le_trans (by omega) ((Below.refl 0 w1).alloc (Nat.zero_le _) o).size) (fun k hk => (HOWN.out.lt k hk).1))
               have HB2 := hide hb2
               clear ho hg hb2 e1 e2 hw3)
  go_ret2
  refine ⟨⟨_, rfl⟩, ⟨.inr ?_, (HBL.out.trans HG2.out).setCell (p := ⟨b, 1, none⟩) hB _, ?_⟩, HKM.out.trans (KM.set HB2.out _ _)⟩
  · refine Lib.BuilderAt.put (T := 78) (e := 5) hB HB2.out (bs' := cellsOf (l ++ runeL r)) ?_ (by decide)
    have ho := HO2.out
    have e1 : cellsOf (l ++ runeL r) = cellsOf l ++ cellsOf (runeL r) := by rw [cellsOf, List.map_append]; rfl
    rw [e1, List.length_append, cellsOf_length, cellsOf_length]
    exact ho
  · have := HG2.out.size
    simp [World.setCell]
    omega
end Go.Proofs.YtiejmkjpgjbodaaGreatDoor

namespace Go.Proofs.YtiejmkjpgjbodaaGreatDoor
open Go.RowKit
set_option linter.unusedVariables false
set_option linter.unusedSimpArgs false
set_option maxRecDepth 100000
def EnvE (w : World) : Prop := Tab w ∧ Lib.Utf8Tabs 4 5 w ∧ ∃ ev, w.cell? ⟨1, 0, none⟩ = some ev ∧ (ev = .nilIface ∨ ∃ te pe, ev = .iface te pe)
theorem EnvE.kept {w w' : World} (h : EnvE w) (hb : Below w.heap.size w w') : EnvE w' := by
  obtain ⟨h1, h2, ev, h3, h4⟩ := h
  exact ⟨h1.below hb h1.lt, tabs_kept h2 hb, ev, (hb.cell (p := ⟨1, 0, none⟩) (World.block_lt_of_cell? _ _ h3)).trans h3, h4⟩
def SignOK (c : Int) : Prop := 0 ≤ c ∧ c ≤ 1114111
theorem putN_ok {f : List UInt8 → Option Int} {k : List UInt8} {c : Int} (hf : ∀ l x, f l = some x → SignOK x) (hc : SignOK c) : ∀ l x, putN f k c l = some x → SignOK x := by
  intro l x h
  unfold putN at h
  split at h
  · injection h with h; rw [← h]; exact hc
  · exact hf l x h
theorem nameN_ok : ∀ l x, nameN l = some x → SignOK x := by
  unfold nameN
  repeat (refine putN_ok ?_ (by unfold SignOK; decide))
  intro l x h; cases h
theorem signN_ok (n : Nat) : SignOK (signN n) := by
  unfold signN SignOK
  split
  · decide
  · split
    · have := winR_range (UInt8.ofNat n); omega
    · omega
theorem numAt_ok {b m : Nat} {l : List UInt8} : ∀ x, numAt b m l = some x → SignOK x := by
  intro x h
  unfold numAt at h
  split at h
  · cases h
  · split at h
    · cases h
    · injection h with h; rw [← h]; exact signN_ok _
theorem sgn_ok {l : List UInt8} : ∀ x, sgn l = some x → SignOK x := by
  intro x h
  unfold sgn byN at h
  split at h
  · split at h <;> exact numAt_ok x h
  · exact nameN_ok _ x h
theorem refN_ok (l : List UInt8) : SignOK (refN l).1 ∧ (refN l).2 ≤ l.length := by
  unfold refN
  split
  · rename_i x h1 h2
    refine ⟨sgn_ok x h1, ?_⟩
    rcases cut_case 59 (l.take 9) with ⟨h3, h4, _⟩ | ⟨a, r, h3, _, h4, _⟩
    · have : hasC 59 (l.take 9) = false := by unfold hasC; simpa using h3
      rw [this] at h2; cases h2
    · have := congrArg List.length h3
      rw [List.length_append, List.length_cons, List.length_take] at this
      rw [h4]
      show a.length + 1 ≤ _
      omega
  · exact ⟨by unfold SignOK; decide, Nat.zero_le _⟩
def decE (l : List UInt8) : List UInt8 :=
  if h : hasC 38 l = true then
    beforeC 38 l ++ (if 0 < (refN (afterC 38 l)).2 then runeL (refN (afterC 38 l)).1 ++ decE ((afterC 38 l).drop (refN (afterC 38 l)).2) else 38 :: decE (afterC 38 l))
  else l
termination_by l.length
decreasing_by
  all_goals
    rcases cut_case 38 l with ⟨h3, _⟩ | ⟨a, r, h3, _, h4, h5⟩
    · exact absurd h (by unfold hasC; simpa using h3)
    · have := congrArg List.length h3
      rw [List.length_append, List.length_cons] at this
      rw [h5]
      first | (rw [List.length_drop]; omega) | omega
theorem decE_no {l : List UInt8} (h : hasC 38 l = false) : decE l = l := by rw [decE, dif_neg (by rw [h]; decide)]
theorem decE_yes {l : List UInt8} (h : hasC 38 l = true) : decE l = beforeC 38 l ++ (if 0 < (refN (afterC 38 l)).2 then runeL (refN (afterC 38 l)).1 ++ decE ((afterC 38 l).drop (refN (afterC 38 l)).2) else 38 :: decE (afterC 38 l)) := by rw [decE, dif_pos h]
theorem has_cut {c : UInt8} {l : List UInt8} (h : hasC c l = true) : l.length = (beforeC c l).length + 1 + (afterC c l).length := by
  rcases cut_case c l with ⟨h3, _⟩ | ⟨a, r, h3, _, h4, h5⟩
  · exact absurd h (by unfold hasC; simpa using h3)
  · have := congrArg List.length h3
    rw [List.length_append, List.length_cons] at this
    rw [h4, h5]; omega
theorem index_has (c : UInt8) (l : List UInt8) : decide (0 ≤ Lib.indexByte l c) = hasC c l := by
  rcases index_cut c l with ⟨h1, h2, _⟩ | ⟨o, h1, _, h2, _⟩
  · rw [h1]
    have : hasC c l = false := by unfold hasC; simpa using h2
    rw [this]; rfl
  · rw [h1]
    have : hasC c l = true := by unfold hasC; simpa using h2
    rw [this]; exact decide_eq_true (by omega)
set_option maxHeartbeats 4000000 in
theorem entDecode_any (s : ByteArray) (w : World) (hs : s.size ≤ 16777216) (hE : EnvE w) :
    Calls Tryz.prog 82 #[.string s] w fun e w' => e = .returned (.string (str (decE s.data.toList))) ∧ Below w.heap.size w w' := by
  have HC := hide (Tryz.strings_Contains_one s 38 w)
  rw [index_has] at HC
  cases hh : hasC 38 s.data.toList with
  | false =>
    have HR : Hid (decE s.data.toList = s.data.toList) := hide (decE_no hh)
    rw [hh] at HC
    clear hh hE
    go_enter Tryz.func82, Tryz.ntmps82
    go_wp2_with (go_at_call 116; refine HC.out.mono ?_; rintro e w1 ⟨rfl, hw⟩; obtain rfl := hw.symm)
    go_ret
    exact ⟨by rw [HR.out, str_of]; rfl, Below.refl _ _⟩
  | true =>
    rw [hh] at HC
    have HE := hide hE
    have KB : Hid (Below w.heap.size w (w.alloc (.cells #[.pointer none, .slice none 0 0] 78))) := hide ((Below.refl _ _).alloc (Nat.le_refl _) _)
    have HBD := hide (Bld.new (B := w.heap.size) (W0 := w) (Below.refl _ w) (Nat.le_refl _))
    clear hh hE
    go_enter Tryz.func82, Tryz.ntmps82
    go_wp2_with (first
      | (go_at_call 116; refine HC.out.mono ?_; rintro e w1 ⟨rfl, hw⟩; obtain rfl := hw.symm)
      | (go_at_call 117; refine (signs_any _).mono ?_; rintro e w2 ⟨rfl, hm2, hb2⟩; have HM2 := hide hm2; have HB2 := hide hb2; clear hm2 hb2))
    have HM2' : Hid (SMapN w2 (w.heap.size + 1) 16 nameN) := hide (by have := HM2.out; rwa [World.size_alloc] at this)
    go_loopw [0] (fun sv wr => ∃ (S : ByteArray) (acc : List UInt8), sv = .string S ∧ Hid (acc.length + 4 * S.size ≤ 4 * s.size) ∧ Hid (Bld w.heap.size w.heap.size acc w wr) ∧ Hid (SMapN wr (w.heap.size + 1) 16 nameN) ∧ Hid (acc ++ decE S.data.toList = decE s.data.toList)) (fun sv _ => szOfS sv)
    case atStart => exact ⟨s, [], rfl, hide (by simp), hide (HBD.out.kept HB2.out), HM2', hide rfl⟩
    case round =>
      obtain ⟨S, acc, rfl, HL, HB, HM, HG⟩ := hrel
      have hSz : S.size ≤ s.size := by have := HL.out; omega
      have hcut := fun w1 => strCut_any S 38 w1 (by omega)
      simp only [cutV] at hcut
      obtain ⟨A, hA⟩ : ∃ A, A = str (beforeC 38 S.data.toList) := ⟨_, rfl⟩
      obtain ⟨R, hR⟩ : ∃ R, R = str (afterC 38 S.data.toList) := ⟨_, rfl⟩
      rw [← hA, ← hR] at hcut
      have hAl : A.data.toList = beforeC 38 S.data.toList := by rw [hA, str_toList]
      have hRl : R.data.toList = afterC 38 S.data.toList := by rw [hR, str_toList]
      have hAs : A.size ≤ S.size := by rw [← toList_length, hAl, ← toList_length S]; exact (List.takeWhile_sublist _).length_le
      have HL1 : Hid (acc.length + A.size ≤ 140737488355328) := hide (by have := HL.out; omega)
      have tok1 : True := trivial
      cases hc : hasC 38 S.data.toList with
      | false =>
        rw [hc] at hcut
        have HCUT := hide hcut
        have HR : Hid (decE s.data.toList = acc ++ A.data.toList) := hide (by
          rw [← HG.out, decE_no hc, hAl]
          rcases cut_case 38 S.data.toList with ⟨_, h4, _⟩ | ⟨a, r, h3, _⟩
          · rw [h4]
          · exact absurd hc (by unfold hasC; rw [h3]; simp))
        clear hcut hc hA hR hAl hRl hAs hSz
        go_wp2_with (first
          | (go_at_call 113; with_reducible refine (HCUT.out _).mono ?_; rintro e w3 ⟨rfl, hb3⟩; have HB3 := hide (HB.out.kept hb3); have HM3 := hide (HM.out.kept hb3); clear hb3)
          | (go_at_call 64; have _t := tok1; refine (writeStringM_any _ _ acc A w _ HB3.out HL1.out).mono ?_; rintro e w4 ⟨rfl, hb4, hk4⟩; have HB4 := hide hb4; have HM4 := hide (HM3.out.km hk4); clear hb4 hk4 tok1)
          | (go_at_call 57; refine (HB4.out.string).mono ?_; rintro e w5 ⟨rfl, hb5⟩; have HB5 := hide hb5; clear hb5))
        go_ret
        exact ⟨by rw [HR.out]; rfl, HB5.out⟩
      | true =>
        rw [hc] at hcut
        have HCUT := hide hcut
        have hlen := has_cut hc
        rw [← hAl, ← hRl, toList_length, toList_length, toList_length] at hlen
        have hdec := decE_yes hc
        rw [← hAl, ← hRl] at hdec
        have hG := HG.out
        rw [hdec] at hG
        obtain ⟨hx, hnl⟩ := refN_ok R.data.toList
        rw [toList_length] at hnl
        have href := fun w1 (hm : SMapN w1 (w.heap.size + 1) 16 nameN) (he : EnvE w1) => reference_any R (w.heap.size + 1) he.2.2.choose w1 (by omega) hm he.1 he.2.1 he.2.2.choose_spec.1 he.2.2.choose_spec.2
        obtain ⟨⟨x, n⟩, hr⟩ : ∃ o, refN R.data.toList = o := ⟨_, rfl⟩
        rw [hr] at hx hnl href hG
        simp only [refV] at href
        simp only [] at hx hnl hG
        have HREF := hide href
        have HX := hide hx
        have hLL := HL.out
        by_cases hn : 0 < n
        · have t1 : decide ((n : Int) > 0) = true := decide_eq_true (by omega)
          have t2 : decide (0 < n) = true := decide_eq_true hn
          have k1 : (0 : Int) ≤ n := by omega
          have k2 : (n : Int) ≤ R.size := by omega
          rw [if_pos hn] at hG
          have hrl := (runeL_length x).2.1
          have hsz : (R.extract n R.size).size = R.size - n := by rw [ByteArray.size_extract]; omega
          have HL2 : Hid ((acc ++ A.data.toList).length + 4 ≤ 140737488355328) := hide (by rw [List.length_append, toList_length]; omega)
          have HLN : Hid (((acc ++ A.data.toList) ++ runeL x).length + 4 * (R.extract n R.size).size ≤ 4 * s.size) := hide (by rw [List.length_append, List.length_append, toList_length, hsz]; omega)
          have HGN : Hid (((acc ++ A.data.toList) ++ runeL x) ++ decE (R.extract n R.size).data.toList = decE s.data.toList) := hide (by rw [extract_end, ← hG]; simp)
          have HLT : Hid ((R.extract n R.size).size < S.size) := hide (by rw [hsz]; omega)
          clear hcut hc hA hR hAl hRl hAs hlen hdec hG hx hnl href hr hLL hn hrl hsz hSz
          go_wp2_with (first
            | (go_at_call 113; with_reducible refine (HCUT.out _).mono ?_; rintro e w3 ⟨rfl, hb3⟩; have HB3 := hide (HB.out.kept hb3); have HM3 := hide (HM.out.kept hb3); clear hb3)
            | (go_at_call 64; have _t := tok1; refine (writeStringM_any _ _ acc A w _ HB3.out HL1.out).mono ?_; rintro e w4 ⟨rfl, hb4, hk4⟩; have HB4 := hide hb4; have HM4 := hide (HM3.out.km hk4); clear hb4 hk4 tok1)
            | (go_at_call 118; refine (HREF.out _ HM4.out (HE.out.kept HB4.out.2.1)).mono ?_; rintro e w5 ⟨rfl, hb5⟩; have HB5 := hide (HB4.out.kept hb5); have HM5 := hide (HM4.out.kept hb5); clear hb5)
            | (go_at_call 119; refine (writeRuneM_any _ _ _ x HX.out.1 HX.out.2 w _ HB5.out HL2.out).mono ?_; rintro e w6 ⟨⟨m6, rfl⟩, hb6, hk6⟩; have HB6 := hide hb6; have HM6 := hide (HM5.out.km hk6); clear hb6 hk6))
          go_roundw
          case rel => exact ⟨_, _, rfl, HLN, HB6, HM6, HGN⟩
          case measure => exact HLT.out
        · have hn0 : n = 0 := by omega
          have t1 : decide ((n : Int) > 0) = false := decide_eq_false (by omega)
          have t2 : decide (0 < n) = false := decide_eq_false hn
          rw [if_neg hn] at hG
          have tok2 : True := trivial
          have HL2 : Hid ((acc ++ A.data.toList).length + (⟨#[38]⟩ : ByteArray).size ≤ 140737488355328) := hide (by rw [List.length_append, toList_length, show (⟨#[38]⟩ : ByteArray).size = 1 from rfl]; omega)
          have HLN : Hid (((acc ++ A.data.toList) ++ (⟨#[38]⟩ : ByteArray).data.toList).length + 4 * R.size ≤ 4 * s.size) := hide (by rw [List.length_append, List.length_append, toList_length, toList_length, show (⟨#[38]⟩ : ByteArray).size = 1 from rfl]; omega)
          have HGN : Hid (((acc ++ A.data.toList) ++ (⟨#[38]⟩ : ByteArray).data.toList) ++ decE R.data.toList = decE s.data.toList) := hide (by rw [← hG, show (⟨#[38]⟩ : ByteArray).data.toList = [38] from rfl]; simp)
          have HLT : Hid (R.size < S.size) := hide (by omega)
          clear hcut hc hA hR hAl hRl hAs hlen hdec hG hx hnl href hr hLL hn hn0 hSz
          go_wp2_with (first
            | (go_at_call 113; with_reducible refine (HCUT.out _).mono ?_; rintro e w3 ⟨rfl, hb3⟩; have HB3 := hide (HB.out.kept hb3); have HM3 := hide (HM.out.kept hb3); clear hb3)
            | (go_at_call 64; have _t := tok1; refine (writeStringM_any _ _ acc A w _ HB3.out HL1.out).mono ?_; rintro e w4 ⟨rfl, hb4, hk4⟩; have HB4 := hide hb4; have HM4 := hide (HM3.out.km hk4); clear hb4 hk4 tok1)
            | (go_at_call 118; refine (HREF.out _ HM4.out (HE.out.kept HB4.out.2.1)).mono ?_; rintro e w5 ⟨rfl, hb5⟩; have HB5 := hide (HB4.out.kept hb5); have HM5 := hide (HM4.out.kept hb5); clear hb5)
            | (go_at_call 64; have _t := tok2; refine (writeStringM_any _ _ _ ⟨#[38]⟩ w _ HB5.out HL2.out).mono ?_; rintro e w6 ⟨rfl, hb6, hk6⟩; have HB6 := hide hb6; have HM6 := hide (HM5.out.km hk6); clear hb6 hk6 tok2))
          go_roundw
          case rel => exact ⟨_, _, rfl, HLN, HB6, HM6, HGN⟩
          case measure => exact HLT.out
end Go.Proofs.YtiejmkjpgjbodaaGreatDoor

namespace Go.Proofs.YtiejmkjpgjbodaaGreatDoor
open Go.RowKit
set_option linter.unusedVariables false
set_option linter.unusedSimpArgs false
set_option maxRecDepth 100000
def mapC (c : UInt8) : Nat := if c = 38 then 0 else if c = 60 then 1 else if c = 62 then 2 else if c = 160 then 3 else if c = 194 then 4 else 5
def ampT : List UInt8 := [38, 97, 109, 112, 59]
def ltT : List UInt8 := [38, 108, 116, 59]
def gtT : List UInt8 := [38, 103, 116, 59]
def nbT : List UInt8 := [38, 110, 98, 115, 112, 59]
def Node (w : World) (b : Nat) (val : ByteArray) (prio : Int) (pre : ByteArray) (nx : Option Addr) (tab : Value) : Prop :=
  w.cell? ⟨b, 0, none⟩ = some (.string val) ∧ w.cell? ⟨b, 1, none⟩ = some (.int .i64 prio) ∧ w.cell? ⟨b, 2, none⟩ = some (.string pre) ∧ w.cell? ⟨b, 3, none⟩ = some (.pointer nx) ∧ w.cell? ⟨b, 4, none⟩ = some tab
structure Trie (w : World) (G T n0 n1 n2 n4 n5 : Nat) : Prop where
  root : Node w G ⟨#[]⟩ 0 ⟨#[]⟩ none (.slice (some ⟨T, 0, none⟩) 5 5)
  size : w.cell? ⟨G, 5, none⟩ = some (.int .i64 5)
  map : ∀ c : UInt8, w.cell? ⟨G, 6 + c.toNat, none⟩ = some (.int .u8 (mapC c))
  t0 : w.cell? ⟨T, 0, none⟩ = some (.pointer (some ⟨n0, 0, none⟩))
  t1 : w.cell? ⟨T, 1, none⟩ = some (.pointer (some ⟨n1, 0, none⟩))
  t2 : w.cell? ⟨T, 2, none⟩ = some (.pointer (some ⟨n2, 0, none⟩))
  t3 : w.cell? ⟨T, 3, none⟩ = some (.pointer none)
  t4 : w.cell? ⟨T, 4, none⟩ = some (.pointer (some ⟨n4, 0, none⟩))
  k0 : Node w n0 (str ampT) 8 ⟨#[]⟩ none (.slice none 0 0)
  k1 : Node w n1 (str ltT) 6 ⟨#[]⟩ none (.slice none 0 0)
  k2 : Node w n2 (str gtT) 4 ⟨#[]⟩ none (.slice none 0 0)
  k4 : Node w n4 ⟨#[]⟩ 0 ⟨#[160]⟩ (some ⟨n5, 0, none⟩) (.slice none 0 0)
  k5 : Node w n5 (str nbT) 2 ⟨#[]⟩ none (.slice none 0 0)
def lookL : List UInt8 → Option (List UInt8 × Nat)
  | 38 :: _ => some (ampT, 1)
  | 60 :: _ => some (ltT, 1)
  | 62 :: _ => some (gtT, 1)
  | 194 :: 160 :: _ => some (nbT, 2)
  | _ => none
theorem chr_lt (c : UInt8) : c.toNat < 256 := c.toBitVec.isLt
end Go.Proofs.YtiejmkjpgjbodaaGreatDoor

namespace Go.Proofs.YtiejmkjpgjbodaaGreatDoor
open Go.RowKit
set_option linter.unusedVariables false
set_option linter.unusedSimpArgs false
set_option maxRecDepth 100000
def WBuf (B b : Nat) (l : List UInt8) (W0 w : World) : Prop := B ≤ b ∧ ∃ v, Box w b 311 v ∧ Buf B v l W0 w
theorem WBuf.drewN {B b : Nat} {l : List UInt8} {W0 w : World} (h : WBuf B b l W0 w) (n : Nat) : WBuf B b l W0 (w.drewN n) := by
  obtain ⟨hB, v, h1, h2⟩ := h
  exact ⟨hB, v, h1.drewN n, h2.drewN n⟩
theorem WBuf.below {B b : Nat} {l : List UInt8} {W0 w : World} (h : WBuf B b l W0 w) : Below B W0 w := by
  obtain ⟨hB, v, h1, h2⟩ := h
  exact h2.below
theorem WBuf.kept {B b : Nat} {l : List UInt8} {W0 w w' : World} (h : WBuf B b l W0 w) (hb : Below w.heap.size w w') : WBuf B b l W0 w' := by
  obtain ⟨hB, v, h1, h2⟩ := h
  exact ⟨hB, v, h1.below hb h1.lt, h2.kept hb⟩
end Go.Proofs.YtiejmkjpgjbodaaGreatDoor

namespace Go.Proofs.YtiejmkjpgjbodaaGreatDoor
open Go.RowKit
set_option linter.unusedVariables false
set_option linter.unusedSimpArgs false
set_option maxRecDepth 100000
def escG : List UInt8 → List UInt8
  | [] => []
  | c :: r => match lookL (c :: r) with
    | some (t, n) => t ++ escG (r.drop (n - 1))
    | none => c :: escG r
termination_by l => l.length
decreasing_by all_goals simp; try omega
theorem lookL_some {l : List UInt8} {t : List UInt8} {n : Nat} (h : lookL l = some (t, n)) : 1 ≤ n ∧ n ≤ 2 ∧ n ≤ l.length ∧ t.length ≤ 6 ∧ t ≠ [] := by
  unfold lookL at h
  split at h <;> first | (injection h with h; injection h with h1 h2; subst h1 h2; refine ⟨by omega, by omega, by simp, by decide, by decide⟩) | cases h
theorem escG_some {l : List UInt8} {t : List UInt8} {n : Nat} (h : lookL l = some (t, n)) : escG l = t ++ escG (l.drop n) := by
  have hp := lookL_some h
  cases l with
  | nil => simp [lookL] at h
  | cons c r =>
    rw [escG, h]
    obtain ⟨k, rfl⟩ : ∃ k, n = k + 1 := ⟨n - 1, by omega⟩
    rfl
theorem escG_none {c : UInt8} {r : List UInt8} (h : lookL (c :: r) = none) : escG (c :: r) = c :: escG r := by
  rw [escG, h]
theorem escG_len : ∀ (k : Nat) (l : List UInt8), l.length ≤ k → (escG l).length ≤ 6 * l.length
  | 0, l, h => by
    have : l = [] := List.eq_nil_of_length_eq_zero (by omega)
    subst this; rw [escG]; simp
  | k + 1, [], h => by rw [escG]; simp
  | k + 1, c :: r, h => by
    cases e : lookL (c :: r) with
    | none =>
      rw [escG_none e]
      have := escG_len k r (by simp at h; omega)
      simp only [List.length_cons]; omega
    | some p =>
      obtain ⟨t, n⟩ := p
      have hp := lookL_some e
      rw [escG_some e]
      have := escG_len k ((c :: r).drop n) (by rw [List.length_drop]; simp at h ⊢; omega)
      rw [List.length_append]
      rw [List.length_drop] at this
      omega
theorem Trie.below {w w' : World} {G T n0 n1 n2 n4 n5 B : Nat} (h : Trie w G T n0 n1 n2 n4 n5) (hb : Below B w w') (hB : G < B ∧ T < B ∧ n0 < B ∧ n1 < B ∧ n2 < B ∧ n4 < B ∧ n5 < B) : Trie w' G T n0 n1 n2 n4 n5 := by
  have key : ∀ (b o : Nat), b < B → w'.cell? ⟨b, o, none⟩ = w.cell? ⟨b, o, none⟩ := fun b o hb' => hb.cell (p := ⟨b, o, none⟩) hb'
  have kn : ∀ {b val prio pre nx tab}, b < B → Node w b val prio pre nx tab → Node w' b val prio pre nx tab := by
    intro b val prio pre nx tab hb' ⟨a0, a1, a2, a3, a4⟩
    exact ⟨(key _ _ hb').trans a0, (key _ _ hb').trans a1, (key _ _ hb').trans a2, (key _ _ hb').trans a3, (key _ _ hb').trans a4⟩
  obtain ⟨b0, b1, b2, b3, b4, b5, b6⟩ := hB
  exact ⟨kn b0 h.root, (key _ _ b0).trans h.size, fun c => (key _ _ b0).trans (h.map c), (key _ _ b1).trans h.t0, (key _ _ b1).trans h.t1, (key _ _ b1).trans h.t2, (key _ _ b1).trans h.t3, (key _ _ b1).trans h.t4, kn b2 h.k0, kn b3 h.k1, kn b4 h.k2, kn b5 h.k4, kn b6 h.k5⟩
theorem Trie.drewN {w : World} {G T n0 n1 n2 n4 n5 : Nat} (h : Trie w G T n0 n1 n2 n4 n5) (n : Nat) : Trie (w.drewN n) G T n0 n1 n2 n4 n5 := ⟨h.1, h.2, h.3, h.4, h.5, h.6, h.7, h.8, h.9, h.10, h.11, h.12, h.13⟩
def WInv (L : List UInt8) (i m : Nat) (acc : List UInt8) : Prop := m ≤ i ∧ i ≤ L.length + 1 ∧ m ≤ L.length ∧ acc ++ (L.take i).drop m ++ escG (L.drop i) = escG L
theorem WInv.last {L : List UInt8} {m : Nat} {acc : List UInt8} (h : WInv L L.length m acc) : WInv L (L.length + 1) m acc := by
  obtain ⟨h1, h2, h3, h4⟩ := h
  refine ⟨by omega, by omega, h3, ?_⟩
  rw [← h4, List.take_of_length_le (Nat.le_succ _), List.take_length, List.drop_length, List.drop_eq_nil_of_le (Nat.le_succ _)]
theorem WInv.hit {L : List UInt8} {i m n : Nat} {acc t : List UInt8} (h : WInv L i m acc) (hn : lookL (L.drop i) = some (t, n)) : i + n ≤ L.length ∧ WInv L (i + n) (i + n) (acc ++ (L.take i).drop m ++ t) := by
  obtain ⟨h1, h2, h3, h4⟩ := h
  have hp := lookL_some hn
  rw [List.length_drop] at hp
  refine ⟨by omega, by omega, by omega, by omega, ?_⟩
  rw [← h4, escG_some hn, List.drop_drop, show (L.take (i + n)).drop (i + n) = [] from List.drop_eq_nil_of_le (by rw [List.length_take]; omega)]
  simp
theorem WInv.len {L : List UInt8} {i m : Nat} {acc : List UInt8} (h : WInv L i m acc) : acc.length ≤ 6 * L.length := by
  have := escG_len L.length L (Nat.le_refl _)
  rw [← h.2.2.2] at this
  simp only [List.length_append] at this
  omega
end Go.Proofs.YtiejmkjpgjbodaaGreatDoor

namespace Go.Proofs.YtiejmkjpgjbodaaGreatDoor
open Go.RowKit
set_option linter.unusedVariables false
set_option linter.unusedSimpArgs false
set_option maxRecDepth 100000
theorem before_app {c : UInt8} {k : List UInt8} (hk : c ∉ k) (X : List UInt8) : beforeC c (k ++ c :: X) = k ∧ afterC c (k ++ c :: X) = X ∧ hasC c (k ++ c :: X) = true := by
  refine ⟨?_, ?_, by simp [hasC]⟩
  · induction k with
    | nil => simp [beforeC]
    | cons a k ih =>
      have h1 : (a != c) = true := by rw [bne_iff_ne]; rintro rfl; exact hk (by simp)
      have h2 := ih (fun h => hk (List.mem_cons_of_mem _ h))
      unfold beforeC at h2 ⊢
      rw [List.cons_append, List.takeWhile_cons, h1]
      simp only [if_true]
      rw [h2]
  · induction k with
    | nil => simp [afterC]
    | cons a k ih =>
      have h1 : (a != c) = true := by rw [bne_iff_ne]; rintro rfl; exact hk (by simp)
      have h2 := ih (fun h => hk (List.mem_cons_of_mem _ h))
      unfold afterC at h2 ⊢
      rw [List.cons_append, List.dropWhile_cons, h1]
      simp only [if_true]
      exact h2
theorem cons_off {c : UInt8} (hc : c ≠ 38) (r : List UInt8) : beforeC 38 (c :: r) = c :: beforeC 38 r ∧ afterC 38 (c :: r) = afterC 38 r ∧ hasC 38 (c :: r) = hasC 38 r := by
  have h1 : (c != 38) = true := by rw [bne_iff_ne]; exact hc
  refine ⟨?_, ?_, ?_⟩
  · unfold beforeC; rw [List.takeWhile_cons, h1]; rfl
  · unfold afterC; rw [List.dropWhile_cons, h1]; rfl
  · unfold hasC
    congr 1
    rw [List.mem_cons, eq_iff_iff]
    exact ⟨fun h => h.elim (fun e => absurd e.symm hc) id, .inr⟩
theorem decE_nil : decE [] = [] := decE_no rfl
theorem decE_cons {c : UInt8} (hc : c ≠ 38) (r : List UInt8) : decE (c :: r) = c :: decE r := by
  obtain ⟨e1, e2, e3⟩ := cons_off hc r
  cases h : hasC 38 r with
  | false => rw [decE_no h, decE_no (e3.trans h)]
  | true => rw [decE_yes h, decE_yes (e3.trans h), e1, e2, List.cons_append]
theorem decE_amp (r : List UInt8) : decE (38 :: r) = if 0 < (refN r).2 then runeL (refN r).1 ++ decE (r.drop (refN r).2) else 38 :: decE r := by
  have e1 : beforeC 38 (38 :: r) = [] := by simp [beforeC]
  have e2 : afterC 38 (38 :: r) = r := by simp [afterC]
  rw [decE_yes (by simp [hasC]), e1, e2, List.nil_append]
theorem refN_at {k : List UInt8} (hk : (59 : UInt8) ∉ k) (hl : k.length ≤ 8) (X : List UInt8) : refN (k ++ 59 :: X) = match sgn k with | some x => (x, k.length + 1) | none => (0, 0) := by
  have e : (k ++ 59 :: X).take 9 = k ++ 59 :: X.take (8 - k.length) := by
    rw [List.take_append, List.take_of_length_le (by omega)]
    obtain ⟨m, hm⟩ : ∃ m, 9 - k.length = m + 1 := ⟨8 - k.length, by omega⟩
    rw [hm, List.take_succ_cons, show m = 8 - k.length by omega]
  obtain ⟨e1, e2, e3⟩ := before_app hk (X.take (8 - k.length))
  unfold refN
  rw [e, e1, e3]
  cases sgn k <;> rfl
theorem name_one (c : UInt8) : nameN [c] = none := u8_all (p := fun c => nameN [c] = none) (by decide +kernel) c
theorem sgn_two {k : List UInt8} {x : Int} (h : sgn k = some x) : 2 ≤ k.length := by
  match k, h with
  | [], h => rw [show sgn [] = none by decide] at h; cases h
  | [c], h =>
    by_cases hc : c = 35
    · subst hc
      rw [show sgn [35] = none by decide] at h; cases h
    · unfold sgn at h
      split at h
      · rename_i hp
        have : 35 = c := by simpa [Lib.hasPrefix] using hp
        exact absurd this.symm hc
      · rw [name_one] at h; cases h
  | _ :: _ :: _, _ => simp
theorem refN_three {l : List UInt8} (h : 0 < (refN l).2) : 3 ≤ (refN l).2 := by
  unfold refN at h ⊢
  split
  · rename_i x h1 h2
    have := sgn_two h1
    show 3 ≤ _ + 1
    omega
  · rename_i hno
    split at h
    · rename_i x h1 h2
      exact absurd h2 (by intro h2; exact hno x h1 h2)
    · exact absurd h (by decide)
theorem decE_len : ∀ (k : Nat) (l : List UInt8), l.length ≤ k → (decE l).length ≤ l.length
  | _, [], _ => by rw [decE_nil]; exact Nat.le_refl _
  | 0, c :: r, h => absurd h (by simp)
  | k + 1, c :: r, h => by
    by_cases hc : c = 38
    · subst hc
      rw [decE_amp]
      split
      · rename_i hn
        have h3 := refN_three hn
        have hle := (refN_ok r).2
        have hr := (runeL_length (refN r).1).2.1
        have := decE_len k (r.drop (refN r).2) (by rw [List.length_drop]; simp only [List.length_cons] at h; omega)
        rw [List.length_drop] at this
        rw [List.length_append, List.length_cons]
        omega
      · have := decE_len k r (by simpa using h)
        simp only [List.length_cons]; omega
    · have := decE_len k r (by simpa using h)
      rw [decE_cons hc]
      simp only [List.length_cons]; omega
end Go.Proofs.YtiejmkjpgjbodaaGreatDoor

namespace Go.Proofs.YtiejmkjpgjbodaaGreatDoor
set_option linter.unusedVariables false
set_option linter.unusedSimpArgs false
def kindN (z : Int) : Nat := if z = 1 then 1 else if z = 2 then 2 else if z = 3 then 3 else 0
def toL (p : TokG) : TokL := ⟨kindN p.1, p.2.name, p.2.attrs, p.2.text⟩
instance decTK2 : DecidableEq (List UInt8 × List AtL) := inferInstance
instance decTK1 : DecidableEq (List UInt8 × List UInt8 × List AtL) := inferInstance
instance decTK0 : DecidableEq (Int × List UInt8 × List UInt8 × List AtL) := inferInstance
end Go.Proofs.YtiejmkjpgjbodaaGreatDoor

namespace Go.Proofs.YtiejmkjpgjbodaaGreatDoor
open Go.RowKit
set_option linter.unusedVariables false
set_option linter.unusedSimpArgs false
set_option maxRecDepth 100000
theorem below_of13 {w w' : World} (h : ∃ m, w' = w.drewN m) : Below w.heap.size w w' := by
  obtain ⟨m, rfl⟩ := h
  exact ⟨rfl, rfl, rfl, Nat.le_refl _, fun _ _ => rfl⟩
theorem drew_on {w w' : World} (h : ∃ m, w' = w.drewN m) (n : Nat) : ∃ m, w'.drewN n = w.drewN m := by
  obtain ⟨m, rfl⟩ := h
  exact ⟨m + n, by rw [World.drewN_drewN]⟩
set_option maxHeartbeats 2000000 in
theorem sameAttrs_any (v1 v2 : Value) (l1 l2 : List AtL) (w : World) (h1 : AttrsIn w v1 l1) (h2 : AttrsIn w v2 l2) (hn : l1.length ≤ 1048576) :
    Calls Tryz.prog 46 #[v1, v2] w fun e w' => e = .returned (.bool (decide (l1 = l2))) ∧ ∃ m, w' = w.drewN m := by
  obtain ⟨A1, c1, rfl⟩ := h1.form
  obtain ⟨A2, c2, rfl⟩ := h2.form
  have H1 := hide h1
  have H2 := hide h2
  clear h1 h2
  by_cases hl : l1.length = l2.length
  · have t0 : ((l1.length : Int) == l2.length) = true := by rw [beq_iff_eq]; omega
    have t1 : ((l1.length : Int) != l2.length) = false := by rw [bne, t0]; rfl
    go_enter Tryz.func46, Tryz.ntmps46
    go_wp2_with fail
    go_loopw [5] (fun i wr => ∃ k : Nat, k ≤ l1.length ∧ i = .int .i64 k ∧ Hid (∃ m, wr = w.drewN m) ∧ Hid (l1.take k = l2.take k)) (fun i _ => l1.length - (intOf i).toNat)
    case atStart => exact ⟨0, Nat.zero_le _, rfl, hide ⟨0, rfl⟩, hide rfl⟩
    case round =>
      obtain ⟨k, hk, rfl, HB, HG⟩ := hrel
      by_cases hlt : k < l1.length
      · obtain ⟨f, hf⟩ : ∃ f, l1[k]? = some f := ⟨_, List.getElem?_eq_getElem hlt⟩
        obtain ⟨g, hg⟩ : ∃ g, l2[k]? = some g := ⟨_, List.getElem?_eq_getElem (by omega)⟩
        obtain ⟨a, ha, hc1, hc2⟩ := (H1.out.kept (below_of13 HB.out)).at k f hf
        obtain ⟨b, hb, hd1, hd2⟩ := (H2.out.kept (below_of13 HB.out)).at k g hg
        subst ha hb
        have hlt2 : k < l2.length := by omega
        obtain ⟨X1, hX1⟩ : ∃ X, X = str f.1 := ⟨_, rfl⟩
        obtain ⟨X2, hX2⟩ : ∃ X, X = str f.2 := ⟨_, rfl⟩
        obtain ⟨Y1, hY1⟩ : ∃ X, X = str g.1 := ⟨_, rfl⟩
        obtain ⟨Y2, hY2⟩ : ∃ X, X = str g.2 := ⟨_, rfl⟩
        rw [← hX1] at hc1
        rw [← hX2] at hc2
        rw [← hY1] at hd1
        rw [← hY2] at hd2
        by_cases he : f = g
        · have e1 : X1 = Y1 := by rw [hX1, hY1, he]
          have e2 : X2 = Y2 := by rw [hX2, hY2, he]
          subst e1 e2
          have HN : Hid (l1.take (k + 1) = l2.take (k + 1)) := hide (by rw [List.take_add_one, List.take_add_one, HG.out, hf, hg, he])
          clear he hf hg hX1 hX2 hY1 hY2
          go_wp2_with fail
          go_quiet (fail)
          go_wp2_with fail
          go_roundw
          case rel => exact ⟨k + 1, by omega, by go_num, hide (drew_on HB.out nq), HN⟩
          case measure => simp [intOf]; omega
        · have HD : Hid (decide (l1 = l2) = false) := hide (decide_eq_false (fun e => he (by rw [e, hg] at hf; exact (Option.some.inj hf).symm)))
          by_cases he1 : f.1 = g.1
          · have he2 : f.2 ≠ g.2 := fun e => he (Prod.ext he1 e)
            have e1 : X1 = Y1 := by rw [hX1, hY1, he1]
            have t2 : (X2.toList == Y2.toList) = false := by
              rw [hX2, hY2, bytes_list, bytes_list, str_toList, str_toList]; exact beq_eq_false_iff_ne.2 he2
            subst e1
            clear he he1 he2 hf hg hX1 hX2 hY1 hY2
            go_wp2_with fail
            go_quiet (fail)
            go_wp2_with fail
            go_ret
            exact ⟨ret_bool HD.out.symm, drew_on HB.out nq⟩
          · have t2 : (X1.toList == Y1.toList) = false := by
              rw [hX1, hY1, bytes_list, bytes_list, str_toList, str_toList]; exact beq_eq_false_iff_ne.2 he1
            clear he he1 hf hg hX1 hX2 hY1 hY2
            go_wp2_with fail
            go_quiet (fail)
            go_wp2_with fail
            go_ret
            exact ⟨ret_bool HD.out.symm, drew_on HB.out nq⟩
      · have HD : Hid (decide (l1 = l2) = true) := hide (by
          have := HG.out
          rw [List.take_of_length_le (by omega), List.take_of_length_le (by omega)] at this
          exact decide_eq_true this)
        go_wp2_with fail
        go_ret
        exact ⟨ret_bool HD.out.symm, HB.out⟩
  · have t0 : ((l1.length : Int) == l2.length) = false := by rw [beq_eq_false_iff_ne]; omega
    have t1 : ((l1.length : Int) != l2.length) = true := by rw [bne, t0]; rfl
    have HD : Hid (decide (l1 = l2) = false) := hide (decide_eq_false (fun e => hl (by rw [e])))
    clear hl
    go_enter Tryz.func46, Tryz.ntmps46
    go_wp2_with fail
    go_ret
    exact ⟨ret_bool HD.out.symm, 0, rfl⟩
end Go.Proofs.YtiejmkjpgjbodaaGreatDoor

namespace Go.Proofs.YtiejmkjpgjbodaaGreatDoor
open Go.RowKit
set_option linter.unusedVariables false
set_option linter.unusedSimpArgs false
set_option maxRecDepth 100000
def attrsFew (p : NdH) : Bool := decide (p.attrs.length ≤ 1048576)
def SameP (N : Nat) : Prop := ∀ (v1 v2 : Value) (t1 t2 : Tr) (w : World), t1.count < N → N ≤ 1048576 → NodesIn w v1 t1 → NodesIn w v2 t2 → t1.all attrsFew = true →
    Calls Tryz.prog 14 #[v1, v2] w fun e w' => e = .returned (.bool (decide (t1 = t2))) ∧ ∃ m, w' = w.drewN m
set_option maxHeartbeats 8000000 in
theorem same14_step (n : Nat) (IH : SameP n) : SameP (n + 1) := by
  intro v1 v2 t1 t2 w hn hN h1 h2 ha
  have hn1 : t1.len ≤ 1048576 := Nat.le_trans (Tr.len_count t1) (by omega)
  obtain ⟨A1, c1, rfl⟩ := NodesC.form h1
  obtain ⟨A2, c2, rfl⟩ := NodesC.form h2
  have H1 := hide h1
  have H2 := hide h2
  have HAL := hide ha
  have HIH := hide IH
  clear h1 h2 ha IH
  by_cases hl : t1.len = t2.len
  · have t0 : ((t1.len : Int) == t2.len) = true := by rw [beq_iff_eq]; omega
    have t1x : ((t1.len : Int) != t2.len) = false := by rw [bne, t0]; rfl
    go_enter Tryz.func14, Tryz.ntmps14
    go_wp2_with fail
    go_loopw [5] (fun i wr => ∃ k : Nat, k ≤ t1.len ∧ i = .int .i64 k ∧ Hid (∃ m, wr = w.drewN m) ∧ Hid (t1.list.take k = t2.list.take k)) (fun i _ => t1.len - (intOf i).toNat)
    case atStart => exact ⟨0, Nat.zero_le _, rfl, hide ⟨0, rfl⟩, hide rfl⟩
    case round =>
      obtain ⟨k, hk, rfl, HB, HG⟩ := hrel
      by_cases hlt : k < t1.len
      · obtain ⟨⟨f, K⟩, hf⟩ : ∃ f, t1.list[k]? = some f := ⟨_, List.getElem?_eq_getElem (by rw [Tr.len_list]; exact hlt)⟩
        obtain ⟨⟨g, L⟩, hg⟩ : ∃ g, t2.list[k]? = some g := ⟨_, List.getElem?_eq_getElem (by rw [Tr.len_list]; omega)⟩
        have hI1 := H1.out.kept (below_of13 HB.out)
        have hI2 := H2.out.kept (below_of13 HB.out)
        obtain ⟨a, d, x, y, z, m, ha, -, p1, p2, hA, p3, p4, hm, hK⟩ := NodesC.at hI1 k f K hf
        obtain ⟨b, d', x', y', z', m', hb, -, q1, q2, hB, q3, q4, hm', hL⟩ := NodesC.at hI2 k g L hg
        subst ha hb
        have hlt2 : k < t2.len := by omega
        have hKc := Tr.at_count hf
        obtain ⟨haf, haK⟩ := Tr.all_at HAL.out hf
        have HSA : Hid (∀ m, Calls Tryz.prog 46 #[.slice d f.attrs.length y, .slice d' g.attrs.length y'] (wr.drewN m) fun e w' => e = .returned (.bool (decide (f.attrs = g.attrs))) ∧ ∃ k, w' = (wr.drewN m).drewN k) :=
          hide fun m => sameAttrs_any _ _ _ _ _ (hA.1.kept ⟨rfl, rfl, rfl, Nat.le_refl _, fun _ _ => rfl⟩) (hB.1.kept ⟨rfl, rfl, rfl, Nat.le_refl _, fun _ _ => rfl⟩) (by simpa [attrsFew] using haf)
        have HSK : Hid (∀ q, Calls Tryz.prog 14 #[.slice x m z, .slice x' m' z'] (wr.drewN q) fun e w' => e = .returned (.bool (decide (K = L))) ∧ ∃ k, w' = (wr.drewN q).drewN k) :=
          hide fun q => HIH.out _ _ K L _ (by omega) (by omega) (NodesIn.kept hK ⟨rfl, rfl, rfl, Nat.le_refl _, fun _ _ => rfl⟩) (NodesIn.kept hL ⟨rfl, rfl, rfl, Nat.le_refl _, fun _ _ => rfl⟩) haK
        obtain ⟨X1, hX1⟩ : ∃ X, X = str f.name := ⟨_, rfl⟩
        obtain ⟨X2, hX2⟩ : ∃ X, X = str g.name := ⟨_, rfl⟩
        obtain ⟨Y1, hY1⟩ : ∃ X, X = str f.text := ⟨_, rfl⟩
        obtain ⟨Y2, hY2⟩ : ∃ X, X = str g.text := ⟨_, rfl⟩
        rw [← hX1] at p1
        rw [← hX2] at q1
        rw [← hY1] at p3
        rw [← hY2] at q3
        have HDF : Hid ((f, K) ≠ (g, L) → decide (t1 = t2) = false) := hide fun hne => decide_eq_false fun e => hne (by rw [e, hg] at hf; exact (Option.some.inj hf).symm)
        have HNX : Hid ((f, K) = (g, L) → t1.list.take (k + 1) = t2.list.take (k + 1)) := hide fun he => by rw [List.take_add_one, List.take_add_one, HG.out, hf, hg, he]
        have hxe : f.name ≠ g.name → (X1.toList == X2.toList) = false := fun h => by
          rw [hX1, hX2, bytes_list, bytes_list, str_toList, str_toList]; exact beq_eq_false_iff_ne.2 h
        have hye : f.text ≠ g.text → (Y1.toList == Y2.toList) = false := fun h => by
          rw [hY1, hY2, bytes_list, bytes_list, str_toList, str_toList]; exact beq_eq_false_iff_ne.2 h
        have hxs : f.name = g.name → X1 = X2 := fun h => by rw [hX1, hX2, h]
        have hys : f.text = g.text → Y1 = Y2 := fun h => by rw [hY1, hY2, h]
        have hne1 : f.name ≠ g.name → (f, K) ≠ (g, L) := fun h e => h (congrArg (fun z : NdH × Tr => z.1.name) e)
        have hne2 : f.text ≠ g.text → (f, K) ≠ (g, L) := fun h e => h (congrArg (fun z : NdH × Tr => z.1.text) e)
        have hne3 : f.attrs ≠ g.attrs → (f, K) ≠ (g, L) := fun h e => h (congrArg (fun z : NdH × Tr => z.1.attrs) e)
        have hne4 : K ≠ L → (f, K) ≠ (g, L) := fun h e => h (congrArg (fun z : NdH × Tr => z.2) e)
        have heq : f.name = g.name → f.text = g.text → f.attrs = g.attrs → K = L → (f, K) = (g, L) := fun e1 e2 e3 e4 => by
          rw [e4]
          congr 1
          cases f; cases g
          simp only at e1 e2 e3
          rw [e1, e2, e3]
        clear hf hg hX1 hX2 hY1 hY2 hA hB hK hL hm hm' haf haK hKc hI1 hI2
        by_cases e1 : f.name = g.name
        · have x1 := hxs e1
          subst x1
          by_cases e2 : f.text = g.text
          · have x2 := hys e2
            subst x2
            by_cases e3 : f.attrs = g.attrs
            · by_cases e4 : K = L
              · have HN : Hid (t1.list.take (k + 1) = t2.list.take (k + 1)) := hide (HNX.out (heq e1 e2 e3 e4))
                rw [decide_eq_true e3] at HSA
                rw [decide_eq_true e4] at HSK
                clear hxe hye hxs hys hne1 hne2 hne3 hne4 heq e1 e2 e3 e4
                go_wp2_with fail
                go_quiet (first | (go_at_call 46; exact Calls.quiet_of (HSA.out _)) | (go_at_call 14; exact Calls.quiet_of (HSK.out _)) | fail)
                go_wp2_with fail
                go_roundw
                case rel => exact ⟨k + 1, by omega, by go_num, hide (drew_on HB.out nq), HN⟩
                case measure => simp [intOf]; omega
              · have HD : Hid (decide (t1 = t2) = false) := hide (HDF.out (hne4 e4))
                rw [decide_eq_true e3] at HSA
                rw [decide_eq_false e4] at HSK
                clear hxe hye hxs hys hne1 hne2 hne3 hne4 heq e1 e2 e3 e4
                go_wp2_with fail
                go_quiet (first | (go_at_call 46; exact Calls.quiet_of (HSA.out _)) | (go_at_call 14; exact Calls.quiet_of (HSK.out _)) | fail)
                go_wp2_with fail
                go_ret
                exact ⟨ret_bool HD.out.symm, drew_on HB.out nq⟩
            · have HD : Hid (decide (t1 = t2) = false) := hide (HDF.out (hne3 e3))
              rw [decide_eq_false e3] at HSA
              clear hxe hye hxs hys hne1 hne2 hne3 hne4 heq e1 e2 e3
              go_wp2_with fail
              go_quiet (first | (go_at_call 46; exact Calls.quiet_of (HSA.out _)) | fail)
              go_wp2_with fail
              go_ret
              exact ⟨ret_bool HD.out.symm, drew_on HB.out nq⟩
          · have HD : Hid (decide (t1 = t2) = false) := hide (HDF.out (hne2 e2))
            have t3 := hye e2
            clear hxe hye hxs hys hne1 hne2 hne3 hne4 heq e1 e2
            go_wp2_with fail
            go_quiet (fail)
            go_wp2_with fail
            go_ret
            exact ⟨ret_bool HD.out.symm, drew_on HB.out nq⟩
        · have HD : Hid (decide (t1 = t2) = false) := hide (HDF.out (hne1 e1))
          have t2x := hxe e1
          clear hxe hye hxs hys hne1 hne2 hne3 hne4 heq e1
          go_wp2_with fail
          go_quiet (fail)
          go_wp2_with fail
          go_ret
          exact ⟨ret_bool HD.out.symm, drew_on HB.out nq⟩
      · have HD : Hid (decide (t1 = t2) = true) := hide (by
          have := HG.out
          rw [List.take_of_length_le (by rw [Tr.len_list]; omega), List.take_of_length_le (by rw [Tr.len_list]; omega)] at this
          exact decide_eq_true (Tr.list_inj this))
        go_wp2_with fail
        go_ret
        exact ⟨ret_bool HD.out.symm, HB.out⟩
  · have t0 : ((t1.len : Int) == t2.len) = false := by rw [beq_eq_false_iff_ne]; omega
    have t1x : ((t1.len : Int) != t2.len) = true := by rw [bne, t0]; rfl
    have HD : Hid (decide (t1 = t2) = false) := hide (decide_eq_false (fun e => hl (by rw [e])))
    clear hl
    go_enter Tryz.func14, Tryz.ntmps14
    go_wp2_with fail
    go_ret
    exact ⟨ret_bool HD.out.symm, 0, rfl⟩
theorem same14_all : ∀ n, SameP n
  | 0 => fun v1 v2 t1 t2 w h => absurd h (Nat.not_lt_zero _)
  | n + 1 => same14_step n (same14_all n)
theorem same14_any (v1 v2 : Value) (t1 t2 : Tr) (w : World) (hn : t1.count < 1048576) (h1 : NodesIn w v1 t1) (h2 : NodesIn w v2 t2) (ha : t1.all attrsFew = true) :
    Calls Tryz.prog 14 #[v1, v2] w fun e w' => e = .returned (.bool (decide (t1 = t2))) ∧ ∃ m, w' = w.drewN m :=
  same14_all (t1.count + 1) v1 v2 t1 t2 w (Nat.lt_succ_self _) hn h1 h2 ha
end Go.Proofs.YtiejmkjpgjbodaaGreatDoor

namespace Go.Proofs.YtiejmkjpgjbodaaGreatDoor
open Go.RowKit
set_option linter.unusedVariables false
set_option linter.unusedSimpArgs false
set_option maxRecDepth 100000
def samF (g : Nat) : Value := .func (.func 76) #[] #[.pointer (some ⟨g, 0, none⟩)]
def SamC (w : World) (g : Nat) : Prop := g < w.heap.size ∧ w.cell? ⟨g, 0, none⟩ = some (samF g)
theorem SamC.kept {w w' : World} {g : Nat} (h : SamC w g) (hb : Below w.heap.size w w') : SamC w' g :=
  ⟨Nat.lt_of_lt_of_le h.1 hb.size, (World.cell?_of_block (hb.block g h.1)).trans h.2⟩
theorem bl_two {w w1 w2 : World} (h : Below w.heap.size w w1) (h2 : Below w1.heap.size w1 w2) : Below w.heap.size w w2 := h.trans (h2.mono h.size)
end Go.Proofs.YtiejmkjpgjbodaaGreatDoor

namespace Go.Proofs.YtiejmkjpgjbodaaGreatDoor
open Go.RowKit
set_option linter.unusedVariables false
set_option linter.unusedSimpArgs false
set_option maxRecDepth 100000
def MadC (B : Nat) (w w' : World) : Nat → Prop := fun b => b < B ∨ (w.heap.size ≤ b ∧ b < w'.heap.size)
def MadR (B : Nat) (w : World) (v : Value) (wr : World) : Nat → Prop := fun b => (b < B ∨ w.heap.size ≤ b) ∧ b < wr.heap.size ∧ v.ownBlock ≠ some b
def MadeP (B b : Nat) (r o : Value) (l : List ArV) (opn : List Nat) (hot : List Nat) (W0 : World) (N : Nat) : Prop := ∀ (kv : Value) (ks : List Nat) (T : Tr) (w : World), T.count < N → AB B b r o l opn W0 w → w.ownsRow B 3 1 kv ks.length (intVals ks) → ArRes (arL l) hot ks T →
    Calls Tryz.prog 45 #[.pointer (some ⟨b, 0, none⟩), kv] w fun e w' => ∃ u, e = .returned u ∧ NodesC (MadC B w w') w' u T ∧ Below w.heap.size w w'
theorem made_ready {B : Nat} {w wr w6 : World} {v u2 av : Value} {qs : List KidV} {f : NdH} {K : Tr} (hBw : B ≤ w.heap.size) (hwr : w.heap.size ≤ wr.heap.size) (hk : KRow (MadR B w v wr) w.heap.size v qs wr) (hb : Below wr.heap.size wr w6) (hA : AttrsC (fun g => g < B) wr av f.attrs)
    (hn : NodesC (fun b => b < B ∨ (wr.heap.size ≤ b ∧ b < w6.heap.size)) w6 u2 K) :
    KRow (MadR B w v (w6.alloc (.cells #[.string (str f.name), av, .string (str f.text), u2] 33))) w.heap.size v qs (w6.alloc (.cells #[.string (str f.name), av, .string (str f.text), u2] 33)) ∧
    NodesC (MadR B w v (w6.alloc (.cells #[.string (str f.name), av, .string (str f.text), u2] 33))) (w6.alloc (.cells #[.string (str f.name), av, .string (str f.text), u2] 33)) (.slice (some ⟨w6.heap.size, 0, none⟩) 1 1) (.cons f K .nil) := by
  obtain ⟨W, hW⟩ : ∃ W, W = w6.alloc (.cells #[.string (str f.name), av, .string (str f.text), u2] 33) := ⟨_, rfl⟩
  rw [← hW]
  have hbW : Below w6.heap.size w6 W := by rw [hW]; exact below_one w6 _
  have hzW : W.heap.size = w6.heap.size + 1 := by rw [hW, World.size_alloc]
  have hblk : W.heap[w6.heap.size]? = some (.cells #[.string (str f.name), av, .string (str f.text), u2] 33 (0, 0)) := by rw [hW]; exact heap_alloc_new w6 _
  have hs := hb.size
  have hown : ∀ k, v.ownBlock = some k → w.heap.size ≤ k ∧ k < wr.heap.size := fun k e => hk.row.lt k e
  constructor
  · exact (hk.kept (fun k hk2 => hk2.2.1) (bl_two hb hbW)).widen (fun b hb2 => ⟨hb2.1, by have := hb2.2.1; omega, hb2.2.2⟩) (fun g e hg2 => hg2.2.2 e)
  · have hA2 : AttrsC (MadR B w v W) W av f.attrs := hA.mono (fun g hg => (bl_two hb hbW).block g (by omega)) (fun g hg => ⟨.inl hg, by omega, fun e => by have := (hown g e).1; omega⟩)
    have hN : NodesC (MadR B w v W) W u2 K := hn.mono (fun b hb2 => hbW.block b (by rcases hb2 with h | h; omega; exact h.2)) (fun b hb2 => by
      rcases hb2 with h | h
      · exact ⟨.inl h, by omega, fun e => by have := (hown b e).1; omega⟩
      · exact ⟨.inr (by omega), by omega, fun e => by have := (hown b e).2; omega⟩)
    exact .inr ⟨⟨w6.heap.size, 0, none⟩, 1, rfl, Nat.le_refl _, by decide, ⟨⟨.inr (by show w.heap.size ≤ w6.heap.size; omega), by show w6.heap.size < _; omega, fun e => by have h1 := (hown _ e).2; simp only at h1; omega⟩, (Lib.cell_of_heap hblk 0).trans rfl, (Lib.cell_of_heap hblk 2).trans rfl, ⟨_, (Lib.cell_of_heap hblk 1).trans rfl, hA2⟩, ⟨_, (Lib.cell_of_heap hblk 3).trans rfl, hN⟩, trivial⟩⟩
set_option maxHeartbeats 16000000 in
theorem made_step (B b : Nat) (r o : Value) (l : List ArV) (opn : List Nat) (hot : List Nat) (W0 : World) (hl : l.length ≤ 100000) (N : Nat) (hNm : N + 1 ≤ 1000000) (IH : MadeP B b r o l opn hot W0 N) : MadeP B b r o l opn hot W0 (N + 1) := by
  intro kv ks T w hN h hkr hres
  have hkl := hres.len
  obtain ⟨kA, kc, rfl, -, -⟩ := own_slice hkr
  have HH := hide h
  have HKR := hide hkr
  have HRES := hide hres
  have HIH := hide IH
  have HL := hide hl
  have HTN := hide hN
  have HSM0 : Hid (T.len ≤ 1000000) := hide (by have := Tr.len_count T; omega)
  obtain ⟨n, hn⟩ : ∃ n, n = ks.length := ⟨_, rfl⟩
  have HNN := hide hn
  have HNT : Hid (n = T.len) := hide (by rw [hn, hkl])
  have HSMALL : Hid (n ≤ 1000000) := hide (by have := HSM0.out; have := HNT.out; omega)
  rw [← hn]
  clear h hkr hres IH hl hkl hN hn hNm
  have hn6 : n ≤ 1000000 := HSMALL.out
  go_enter Tryz.func45, Tryz.ntmps45
  go_wp2_with fail
  go_loopw [5, 6] (fun ov i wr => ∃ (k : Nat) (qs : List KidV) (A1 : Option Addr) (c1 : Nat), k ≤ n ∧ i = .int .i64 k ∧ ov = .slice A1 qs.length c1 ∧ Hid (KRow (MadR B w (.slice A1 qs.length c1) wr) w.heap.size (.slice A1 qs.length c1) qs wr) ∧ Hid (qs.map Prod.fst = T.list.take k) ∧ Hid (Below w.heap.size w wr)) (fun _ i _ => n - (intOf i).toNat)
  case atStart => exact ⟨0, [], none, 0, Nat.zero_le _, rfl, rfl, hide (KRow.nil _ _ _), hide rfl, hide (Below.refl _ _)⟩
  case round =>
    obtain ⟨k, qs, A1, c1, hk, rfl, rfl, HK, HM, HB⟩ := hrel
    by_cases hlt : k < n
    · obtain ⟨q, hq⟩ : ∃ q, ks[k]? = some q := ⟨_, List.getElem?_eq_getElem (by rw [← HNN.out]; exact hlt)⟩
      obtain ⟨f, K, ls, hf, hall, hnh, hrl⟩ := HRES.out.at hq
      obtain ⟨p, hp, hpf, hpk⟩ := arL_at hall
      have hh := HH.out.kept HB.out
      have hql : q < l.length := (List.getElem?_eq_some_iff.1 hp).1
      obtain ⟨g, rc, hrv, -, -, -, -⟩ := own_form hh.row (by omega)
      subst hrv
      have c0 := hh.c0
      obtain ⟨m0, m1, m2, m3, m4, mf⟩ := hh.node hp
      have hpkr := hh.kids q p hp
      obtain ⟨pA, pc, hpv, -, -⟩ := own_slice hpkr
      rw [hpv] at m4
      obtain ⟨avA, avc, hav⟩ := (hh.attrs q p hp).1.form
      obtain ⟨al, hal⟩ : ∃ al, p.h.attrs.length = al := ⟨_, rfl⟩
      rw [hal] at hav
      rw [hav] at m1
      have hkw : wr.ownsRow B 3 1 (.slice kA ks.length kc) ks.length (intVals ks) := HKR.out.kept (grown_none HB.out) (by cases kA <;> simp [Value.ownBlock])
      obtain ⟨gk, kc2, hkv, -, -, -, -⟩ := own_form hkw (by rw [← HNN.out]; omega)
      injection hkv with hkv _ hkc
      subst hkv hkc
      have c1' := own_int hkw hq rfl
      obtain ⟨X, hX⟩ : ∃ X, X = str p.h.name := ⟨_, rfl⟩
      obtain ⟨Y, hY⟩ : ∃ Y, Y = str p.h.text := ⟨_, rfl⟩
      rw [← hX] at m0
      rw [← hY] at m2
      have i1 : (q : Int) < (l.length : Int) := by omega
      have i2 : (k : Int) < (n : Int) := by omega
      have c0a : ∀ ob, (wr.alloc ob).cell? ⟨b, 0, none⟩ = some (.slice (some ⟨g, 0, none⟩) l.length rc) := fun ob => ((below_one wr ob).cell (World.block_lt_of_cell? _ _ c0)).trans c0
      have c1a : ∀ ob, (wr.alloc ob).cell? ⟨gk, k, none⟩ = some (.int .i64 q) := fun ob => ((below_one wr ob).cell (World.block_lt_of_cell? _ _ c1')).trans c1'
      have m0a : ∀ ob, (wr.alloc ob).cell? ⟨g, q * 5, none⟩ = some (.string X) := fun ob => ((below_one wr ob).cell (World.block_lt_of_cell? _ _ m0)).trans m0
      have m1a : ∀ ob, (wr.alloc ob).cell? ⟨g, q * 5 + 1, none⟩ = some (.slice avA al avc) := fun ob => ((below_one wr ob).cell (World.block_lt_of_cell? _ _ m1)).trans m1
      have m2a : ∀ ob, (wr.alloc ob).cell? ⟨g, q * 5 + 2, none⟩ = some (.string Y) := fun ob => ((below_one wr ob).cell (World.block_lt_of_cell? _ _ m2)).trans m2
      have m3a : ∀ ob, (wr.alloc ob).cell? ⟨g, q * 5 + 3, none⟩ = some (.slice none 0 0) := fun ob => ((below_one wr ob).cell (World.block_lt_of_cell? _ _ m3)).trans m3
      have m4a : ∀ ob, (wr.alloc ob).cell? ⟨g, q * 5 + 4, none⟩ = some (.slice pA p.ks.length pc) := fun ob => ((below_one wr ob).cell (World.block_lt_of_cell? _ _ m4)).trans m4
      have HP := hide (And.intro hp (And.intro hpf (And.intro hpk (And.intro hpv hav))))
      have HF := hide (And.intro hf hrl)
      have HXY := hide (And.intro hX hY)
      clear hal hh hpkr hkw hp hpf hpk hpv hav hf hrl hX hY hall hnh hq hql mf
      go_wp2_with fail
      go_region
      obtain ⟨W5, hW5⟩ : ∃ W5, W5 = (wr.alloc (Obj.cells #[.string X, .slice avA al avc, .string Y, .slice none 0 0, .slice pA p.ks.length pc] 65)).drew := ⟨_, rfl⟩
      have hb5 : Below wr.heap.size wr W5 := by rw [hW5]; exact (below_one wr _).drew
      have hz5 : W5.heap.size = wr.heap.size + 1 := by rw [hW5]; exact World.size_alloc _ _
      have hk5 : W5.heap[wr.heap.size]? = some (Obj.cells #[.string X, .slice avA al avc, .string Y, .slice none 0 0, .slice pA p.ks.length pc] 65 (0, 0)) := by rw [hW5]; exact heap_alloc_new wr _
      rw [← hW5]
      have x4 : W5.cell? ⟨wr.heap.size, 4, none⟩ = some (.slice pA p.ks.length pc) := (Lib.cell_of_heap hk5 4).trans rfl
      have hab5 := (HH.out.kept HB.out).kept hb5
      have hKc := Tr.at_count HF.out.1
      have hpr5 := hab5.kids q p HP.out.1
      rw [HP.out.2.2.2.1] at hpr5
      have HMD := hide (HIH.out (.slice pA p.ks.length pc) p.ks K W5 (by have := HTN.out; omega) hab5 hpr5 (by rw [HP.out.2.2.1]; exact HF.out.2))
      have HAB5 := hide hab5
      have HB5 := hide hb5
      have HZ5 := hide hz5
      have HK5 := hide hk5
      clear c0 c1' m0 m1 m2 m3 m4 c0a c1a m0a m1a m2a m3a m4a hW5 hb5 hz5 hk5 hab5 hKc hpr5 i1 i2
      go_wp2_with fail
      refine HMD.out.mono ?_
      rintro e w4 ⟨u2, rfl, hn4, hb4⟩
      obtain ⟨Ak, ck, rfl⟩ := NodesC.form hn4
      have hk4 := (hb4.block wr.heap.size (by rw [HZ5.out]; omega)).trans HK5.out
      have y3 : w4.cell? ⟨wr.heap.size, 3, none⟩ = some (.slice none 0 0) := (Lib.cell_of_heap hk4 3).trans rfl
      have yf : w4.frozen? ⟨wr.heap.size, 3, none⟩ = false := Lib.frozen_of_heap hk4 3
      have hk6 := heap_put0 (i := 3) hk4 (.slice Ak K.len ck)
      have hb6 : Below wr.heap.size wr (w4.setCell ⟨wr.heap.size, 3, none⟩ (.slice Ak K.len ck)) := (HB5.out.trans (hb4.mono HB5.out.size)).setCell (p := ⟨wr.heap.size, 3, none⟩) (Nat.le_refl _) _
      have hn6 : NodesC (fun b => b < B ∨ (wr.heap.size ≤ b ∧ b < (w4.setCell ⟨wr.heap.size, 3, none⟩ (.slice Ak K.len ck)).heap.size)) (w4.setCell ⟨wr.heap.size, 3, none⟩ (.slice Ak K.len ck)) (.slice Ak K.len ck) K := hn4.mono (fun g hg => Below.heap_setCell w4 ⟨wr.heap.size, 3, none⟩ _ g (fun e => by
          have e : g = wr.heap.size := e
          have h1 := HZ5.out
          have h2 := HAB5.out.size
          have h3 := HH.out.size
          have h4 := HB.out.size
          rcases hg with h | h <;> omega)) (fun g hg => by
          rw [World.size_setCell]
          have h1 := HZ5.out
          rcases hg with h | h
          · exact .inl h
          · exact .inr (by omega))
      have hA6 := (HH.out.kept HB.out).attrs q p HP.out.1
      rw [HP.out.2.2.2.2] at hA6
      have hA7 : AttrsC (fun g => g < B) wr (.slice avA al avc) f.attrs := by rw [← HP.out.2.1]; exact hA6
      have hrd := made_ready HH.out.size HB.out.size HK.out hb6 hA7 hn6
      rw [← HP.out.2.1, ← HXY.out.1, ← HXY.out.2, World.size_setCell, HP.out.2.1] at hrd
      have HRD := hide hrd
      have HB6 := hide hb6
      have z0 : (w4.setCell ⟨wr.heap.size, 3, none⟩ (.slice Ak K.len ck)).cell? ⟨wr.heap.size, 0, none⟩ = some (.string X) := (Lib.cell_of_heap hk6 0).trans rfl
      have z1 : (w4.setCell ⟨wr.heap.size, 3, none⟩ (.slice Ak K.len ck)).cell? ⟨wr.heap.size, 1, none⟩ = some (.slice avA al avc) := (Lib.cell_of_heap hk6 1).trans rfl
      have z2 : (w4.setCell ⟨wr.heap.size, 3, none⟩ (.slice Ak K.len ck)).cell? ⟨wr.heap.size, 2, none⟩ = some (.string Y) := (Lib.cell_of_heap hk6 2).trans rfl
      have z3 : (w4.setCell ⟨wr.heap.size, 3, none⟩ (.slice Ak K.len ck)).cell? ⟨wr.heap.size, 3, none⟩ = some (.slice Ak K.len ck) := (Lib.cell_of_heap hk6 3).trans rfl
      have HKL : Hid (qs.length + Tr.len (.cons f K .nil) ≤ 1073741824) := hide (by
        have h1 := congrArg List.length HM.out
        rw [List.length_map, List.length_take, Tr.len_list] at h1
        have h2 := HNT.out
        have h3 := hlt
        have h4 := HRES.out
        simp only [Tr.len]
        have h5 : n ≤ 1000000 := HSMALL.out
        omega)
      have HW6 : Hid (Below w.heap.size w ((w4.setCell ⟨wr.heap.size, 3, none⟩ (.slice Ak K.len ck)).alloc (.cells #[.string X, .slice avA al avc, .string Y, .slice Ak K.len ck] 33))) := hide (bl_two (bl_two HB.out HB6.out) (below_one _ _))
      clear hk4 hk6 hb6 hn6 hA6 hA7 hrd hn4 hb4 x4
      go_wp2_with (refine wpList_nodes rfl _ _ rfl _ w.heap.size (.slice A1 qs.length c1) qs rfl HRD.out.1 (fun k hk => hk.2.1) HW6.out.size _ rfl (.cons f K .nil) HRD.out.2 HKL.out ?_
                   intro v' qs' w7 hk' he' hg' hor'
                   obtain ⟨k2, hkk⟩ : ∃ k, k = qs ++ qs' := ⟨_, rfl⟩
                   have HM7 : Hid (k2.map Prod.fst = T.list.take (k + 1)) := hide (by
                     rw [hkk, List.map_append, HM.out, he', List.take_add_one, HF.out.1]; rfl)
                   rw [← hkk] at hk'
                   obtain ⟨A7, c7, hv7, _⟩ := hk'.slice
                   subst hv7
                   have HK7 : Hid (KRow (MadR B w (.slice A7 k2.length c7) w7) w.heap.size (.slice A7 k2.length c7) k2 w7) := hide (hk'.widen (fun b hb => ⟨hb.1, Nat.lt_of_lt_of_le hb.2.1 hg'.size, fun e => hk'.out b e hb⟩) (fun g e hg => hg.2.2 e))
                   have HB7 : Hid (Below w.heap.size w w7) := hide (HW6.out.grown hg' HW6.out.size (fun k e => (HRD.out.1.row.lt k e).1))
                   clear hk' he' hg' hor' hkk)
      go_roundw
      case rel => exact ⟨k + 1, k2, A7, c7, by omega, by go_num, rfl, HK7, HM7, HB7⟩
      case measure => simp [intOf]; omega
    · obtain rfl : k = n := by omega
      have HM2 := HM.out
      rw [HNT.out, ← Tr.len_list, List.take_length] at HM2
      replace HM2 := hide HM2
      go_wp2_with fail
      go_ret
      refine ⟨_, rfl, ?_, HB.out⟩
      have := HK.out.nodes (C' := MadC B w wr) (fun b hb => by rcases hb.1 with h | h; exact .inl h; exact .inr ⟨h, hb.2.1⟩) (fun k e => .inr ⟨(HK.out.row.lt k e).1, (HK.out.row.lt k e).2⟩)
      rw [HM2.out, Tr.of_list] at this
      exact this
theorem made_all (B b : Nat) (r o : Value) (l : List ArV) (opn : List Nat) (hot : List Nat) (W0 : World) (hl : l.length ≤ 100000) : ∀ N, N ≤ 1000000 → MadeP B b r o l opn hot W0 N
  | 0, _ => fun kv ks T w h => absurd h (by omega)
  | N + 1, hN => made_step B b r o l opn hot W0 hl N hN (made_all B b r o l opn hot W0 hl N (by omega))
end Go.Proofs.YtiejmkjpgjbodaaGreatDoor

namespace Go.Proofs.YtiejmkjpgjbodaaGreatDoor
set_option linter.unusedVariables false
set_option linter.unusedSimpArgs false
theorem isMark_off {c : UInt8} {r : List UInt8} (h : c ≠ 60) : isMarkB (c :: r) = false := by
  cases r with
  | nil =>
    unfold isMarkB
    split
    · rename_i heq; injection heq with h1 h2; cases h2
    · rfl
  | cons a b =>
    unfold isMarkB
    split
    · rename_i heq; injection heq with h1 h2; exact absurd h1 h
    · rfl
theorem lowC_two (c : UInt8) : lowC (lowC c) = lowC c := u8_all (p := fun c => lowC (lowC c) = lowC c) (by decide +kernel) c
theorem lowL_two (l : List UInt8) : lowL (lowL l) = lowL l := by
  unfold lowL
  rw [List.map_map]
  exact List.map_congr_left fun c _ => lowC_two c
def FormA (A : List AtL) : Prop := A.length ≤ 30 ∧ A.Pairwise (fun a b => a.1 ≠ b.1)
theorem formA_add {A : List AtL} {a : AtL} (h : FormA A) : FormA (if countsB A a.1 = true then A ++ [a] else A) := by
  split
  · rename_i hc
    unfold countsB at hc
    rw [Bool.and_eq_true, decide_eq_true_eq, Bool.not_eq_true', List.any_eq_false] at hc
    refine ⟨by rw [List.length_append]; simp; omega, ?_⟩
    rw [List.pairwise_append]
    refine ⟨h.2, List.pairwise_singleton _ _, fun x hx y hy => ?_⟩
    obtain rfl := List.mem_singleton.1 hy
    have := hc.2 x hx
    simpa using this
  · exact h
theorem tag_form {dec : List UInt8 → List UInt8} {l n b : List UInt8} {A : List AtL} (h : tagL dec l = some (n, A, b)) : FormA A ∧ lowL n = n := by
  unfold tagL at h
  cases ha : attrsLL dec [] (upL nameEndB l).2 with
  | none => rw [ha] at h; cases h
  | some p =>
    obtain ⟨B, x⟩ := p
    rw [ha] at h
    injection h with h
    injection h with h1 h
    injection h with h2 _
    obtain ⟨_, h3, _⟩ := attrsLL_ind dec (P := fun A _ => FormA A) (fun A l c r _ _ hA => formA_add hA) _ [] _ (Nat.le_refl _) ⟨by simp, List.Pairwise.nil⟩ B x ha
    rw [← h1, ← h2]
    exact ⟨h3, lowL_two _⟩
def FormT (t : TokL) : Prop := (t.kind = 1 → t.text ≠ []) ∧ lowL t.name = t.name ∧ t.attrs.length ≤ 30 ∧ (t.kind ≠ 2 → t.attrs = []) ∧ t.attrs.Pairwise (fun a b => a.1 ≠ b.1)
theorem form_chars {x : List UInt8} (h : x ≠ []) : FormT (charsT x) := ⟨fun _ => h, rfl, by simp [charsT], fun _ => rfl, List.Pairwise.nil⟩
theorem form_rem (x : List UInt8) : FormT (remT x) := ⟨fun e => absurd (show (4 : Nat) = 1 from e) (by decide), rfl, by simp [remT], fun _ => rfl, List.Pairwise.nil⟩
theorem form_end {n : List UInt8} (h : lowL n = n) : FormT (endT n) := ⟨fun e => absurd (show (3 : Nat) = 1 from e) (by decide), h, by simp [endT], fun _ => rfl, List.Pairwise.nil⟩
theorem form_start {n : List UInt8} {A : List AtL} (h : lowL n = n) (hA : FormA A) : FormT (startT n A) := ⟨fun e => absurd (show (2 : Nat) = 1 from e) (by decide), h, hA.1, fun e => absurd rfl e, hA.2⟩
theorem mark_form (dec : List UInt8 → List UInt8) (l : List UInt8) : (∀ t, (markL dec l).1 = some t → FormT t ∧ t.kind ≠ 1) ∧ ((markL dec l).1 = none → (markL dec l).2.1 = []) ∧ (markL dec l).2.1.length + (markL dec l).2.2.length ≤ l.length := by
  have hrem : ∀ k : List UInt8, (∀ t, (remL k).1 = some t → FormT t ∧ t.kind ≠ 1) ∧ ((remL k).1 = none → (remL k).2.1 = []) ∧ (remL k).2.1.length + (remL k).2.2.length ≤ k.length := fun k =>
    ⟨fun t ht => (by injection ht with ht; rw [← ht]; exact ⟨form_rem _, show (4 : Nat) ≠ 1 by decide⟩), fun h => (by cases h), by have := remL_len k; simpa [remL] using this⟩
  have hlong : ∀ k : List UInt8, (∀ t, (longL k).1 = some t → FormT t ∧ t.kind ≠ 1) ∧ ((longL k).1 = none → (longL k).2.1 = []) ∧ (longL k).2.1.length + (longL k).2.2.length ≤ k.length := fun k => by
    have h3 := longL_len k
    unfold longL at h3 ⊢
    split
    · exact ⟨fun t ht => (by injection ht with ht; rw [← ht]; exact ⟨form_rem _, show (4 : Nat) ≠ 1 by decide⟩), fun h => (by cases h), by simp⟩
    · exact ⟨fun t ht => (by injection ht with ht; rw [← ht]; exact ⟨form_rem _, show (4 : Nat) ≠ 1 by decide⟩), fun h => (by cases h), by simp; omega⟩
    · exact ⟨fun t ht => (by injection ht with ht; rw [← ht]; exact ⟨form_rem _, show (4 : Nat) ≠ 1 by decide⟩), fun h => (by cases h), by have := cutAt_len remEnd k; simpa using this⟩
  have hend : ∀ k : List UInt8, (∀ t, (endL dec k).1 = some t → FormT t ∧ t.kind ≠ 1) ∧ ((endL dec k).1 = none → (endL dec k).2.1 = []) ∧ (endL dec k).2.1.length + (endL dec k).2.2.length ≤ k.length := fun k => by
    have h3 := endL_len dec k
    unfold endL at h3 ⊢
    cases h : tagL dec k with
    | none => exact ⟨fun t ht => (by cases ht), fun _ => rfl, by simp⟩
    | some p =>
      obtain ⟨n, A, b⟩ := p
      rw [h] at h3
      exact ⟨fun t ht => (by injection ht with ht; rw [← ht]; exact ⟨form_end (tag_form h).2, show (3 : Nat) ≠ 1 by decide⟩), fun h => (by cases h), by simpa using h3⟩
  have hstart : ∀ k : List UInt8, (∀ t, (startL dec k).1 = some t → FormT t ∧ t.kind ≠ 1) ∧ ((startL dec k).1 = none → (startL dec k).2.1 = []) ∧ (startL dec k).2.1.length + (startL dec k).2.2.length ≤ k.length := fun k => by
    unfold startL
    cases h : tagL dec k with
    | none => exact ⟨fun t ht => (by cases ht), fun _ => rfl, by simp⟩
    | some p =>
      obtain ⟨n, A, b⟩ := p
      have h4 := tagL_len h
      obtain ⟨h5, h6⟩ := tag_form h
      simp only
      split
      · refine ⟨fun t ht => (by injection ht with ht; rw [← ht]; exact ⟨form_start h6 h5, show (2 : Nat) ≠ 1 by decide⟩), fun h => (by cases h), ?_⟩
        show (b.take _).length + (b.drop _).length ≤ _
        rw [← List.length_append, List.take_append_drop]; omega
      · refine ⟨fun t ht => (by injection ht with ht; rw [← ht]; exact ⟨form_start h6 h5, show (2 : Nat) ≠ 1 by decide⟩), fun h => (by cases h), ?_⟩
        show ([] : List UInt8).length + b.length ≤ _
        simp; omega
  unfold markL
  split
  · rename_i r
    split
    · exact ⟨fun t ht => (by cases ht), fun _ => rfl, by simp⟩
    · rename_i c q
      split
      · obtain ⟨a, b, d⟩ := hend (c :: q)
        exact ⟨a, b, by simp only [List.length_cons] at d ⊢; omega⟩
      · split
        · exact ⟨fun t ht => (by cases ht), fun _ => rfl, by simp; omega⟩
        · obtain ⟨a, b, d⟩ := hrem (c :: q)
          exact ⟨a, b, by simp only [List.length_cons] at d ⊢; omega⟩
  · rename_i r
    split
    · rename_i x
      obtain ⟨a, b, d⟩ := hlong x
      exact ⟨a, b, by simp only [List.length_cons] at d ⊢; omega⟩
    · obtain ⟨a, b, d⟩ := hrem r
      exact ⟨a, b, by simp only [List.length_cons] at d ⊢; omega⟩
  · rename_i r
    exact hrem (63 :: r)
  · exact hstart l
def FormsL (L : List TokL) : Prop := (∀ t ∈ L, FormT t) ∧ ∀ (i : Nat) (a b : TokL), L[i]? = some a → L[i + 1]? = some b → ¬ (a.kind = 1 ∧ b.kind = 1)
def EndsL (L : List TokL) : Prop := ∀ t, L.getLast? = some t → t.kind ≠ 1
theorem forms_snoc {L : List TokL} {t : TokL} (h : FormsL L) (ht : FormT t) (he : t.kind = 1 → EndsL L) : FormsL (L ++ [t]) := by
  refine ⟨fun x hx => ?_, fun i a b ha hb => ?_⟩
  · rcases List.mem_append.1 hx with hx | hx
    · exact h.1 x hx
    · obtain rfl := List.mem_singleton.1 hx
      exact ht
  · by_cases h1 : i + 1 < L.length
    · rw [List.getElem?_append_left h1] at hb
      rw [List.getElem?_append_left (by omega)] at ha
      exact h.2 i a b ha hb
    · have h2 : i + 1 = L.length := by
        have := (List.getElem?_eq_some_iff.1 hb).1
        simp at this; omega
      rw [h2, List.getElem?_append_right (Nat.le_refl _)] at hb
      simp at hb
      rw [List.getElem?_append_left (by omega)] at ha
      rintro ⟨k1, k2⟩
      rw [← hb] at k2
      have hl : L.getLast? = some a := by rw [List.getLast?_eq_getElem?, show L.length - 1 = i by omega]; exact ha
      exact he k2 a hl k1
theorem flush_forms {L : List TokL} {x : List UInt8} (h : FormsL L) (he : EndsL L) : FormsL (flushT L x) := by
  unfold flushT
  split
  · exact h
  · rename_i hx
    exact forms_snoc h (form_chars hx) (fun _ => he)
theorem ends_snoc {L : List TokL} {t : TokL} (h : t.kind ≠ 1) : EndsL (L ++ [t]) := by
  intro u hu
  rw [List.getLast?_append] at hu
  simp at hu
  rw [← hu]; exact h
def sz1 (x : List UInt8) : Nat := if x = [] then 0 else 1
theorem flush_len (L : List TokL) (x : List UInt8) : (flushT L x).length = L.length + sz1 x := by
  unfold flushT sz1
  split <;> simp
theorem scan_forms (dec : List UInt8 → List UInt8) : ∀ (k : Nat) (l : List UInt8) (L : List TokL) (x : List UInt8), l.length ≤ k → FormsL L → EndsL L → FormsL (scanL dec L x l) ∧ (scanL dec L x l).length ≤ L.length + sz1 x + l.length := by
  intro k
  induction k with
  | zero =>
    intro l L x hl h he
    obtain rfl : l = [] := List.eq_nil_of_length_eq_zero (by omega)
    rw [scanL_nil]
    exact ⟨flush_forms h he, by rw [flush_len]; simp⟩
  | succ k ih =>
    intro l L x hl h he
    cases l with
    | nil =>
      rw [scanL_nil]
      exact ⟨flush_forms h he, by rw [flush_len]; simp⟩
    | cons c r =>
      by_cases hm : 0 < markN (c :: r)
      · rw [scanL_text dec L x hm]
        have h1 := markN_le (c :: r)
        have h2 : ((c :: r).drop (markN (c :: r))).length = (c :: r).length - markN (c :: r) := List.length_drop
        obtain ⟨a, b⟩ := ih ((c :: r).drop (markN (c :: r))) L (x ++ dec ((c :: r).take (markN (c :: r)))) (by rw [h2]; omega) h he
        refine ⟨a, ?_⟩
        have h3 : sz1 (x ++ dec ((c :: r).take (markN (c :: r)))) ≤ sz1 x + 1 := by unfold sz1; split <;> split <;> omega
        omega
      · have hmk : isMarkB (c :: r) = true := markN_zero (by omega)
        rw [scanL_mark dec L x hmk]
        obtain ⟨m1, m2, m3⟩ := mark_form dec r
        have hlen : (c :: r).length = r.length + 1 := rfl
        have hrk : (markL dec r).2.2.length ≤ k := by omega
        unfold addT
        cases ho : (markL dec r).1 with
        | none =>
          have e := m2 ho
          simp only
          rw [e, List.append_nil]
          obtain ⟨a, b⟩ := ih (markL dec r).2.2 L x hrk h he
          exact ⟨a, by omega⟩
        | some t =>
          obtain ⟨f1, f2⟩ := m1 t ho
          simp only
          obtain ⟨a, b⟩ := ih (markL dec r).2.2 (flushT L x ++ [t]) (markL dec r).2.1 hrk (forms_snoc (flush_forms h he) f1 (fun e => absurd e f2)) (ends_snoc f2)
          refine ⟨a, ?_⟩
          have h3 : sz1 (markL dec r).2.1 ≤ (markL dec r).2.1.length := by
            unfold sz1
            split
            · omega
            · rename_i hne
              exact List.length_pos_iff.2 hne
          rw [List.length_append, flush_len] at b
          simp only [List.length_cons, List.length_nil] at b
          omega
end Go.Proofs.YtiejmkjpgjbodaaGreatDoor

namespace Go.Proofs.YtiejmkjpgjbodaaGreatDoor
set_option linter.unusedVariables false
set_option linter.unusedSimpArgs false
theorem drop_tw13 (p : UInt8 → Bool) : ∀ l : List UInt8, l.drop (l.takeWhile p).length = l.dropWhile p
  | [] => rfl
  | c :: r => by
    by_cases h : p c = true
    · rw [List.takeWhile_cons_of_pos h, List.dropWhile_cons_of_pos h, List.length_cons, List.drop_succ_cons, drop_tw13 p r]
    · rw [List.takeWhile_cons_of_neg h, List.dropWhile_cons_of_neg h]; rfl
theorem take_tw13 (p : UInt8 → Bool) : ∀ l : List UInt8, l.take (l.takeWhile p).length = l.takeWhile p
  | [] => rfl
  | c :: r => by
    by_cases h : p c = true
    · rw [List.takeWhile_cons_of_pos h, List.length_cons, List.take_succ_cons, take_tw13 p r]
    · rw [List.takeWhile_cons_of_neg h]; rfl
theorem tw_le13 (p : UInt8 → Bool) (l : List UInt8) : (l.takeWhile p).length ≤ l.length := (List.takeWhile_sublist p).length_le
def untilN (p : UInt8 → Bool) (l : List UInt8) (a : Nat) : Nat := a + ((l.drop a).takeWhile fun c => !p c).length
theorem until_up (p : UInt8 → Bool) (l : List UInt8) (a : Nat) : upL p (l.drop a) = ((l.drop a).take (untilN p l a - a), l.drop (untilN p l a)) := by
  unfold upL untilN
  rw [Nat.add_sub_cancel_left, take_tw13, ← List.drop_drop, drop_tw13]
theorem until_le {p : UInt8 → Bool} {l : List UInt8} {a : Nat} (h : a ≤ l.length) : a ≤ untilN p l a ∧ untilN p l a ≤ l.length := by
  unfold untilN
  have := tw_le13 (fun c => !p c) (l.drop a)
  rw [List.length_drop] at this
  omega
theorem until_past {p : UInt8 → Bool} {l : List UInt8} {a : Nat} (h : l.length ≤ a) : untilN p l a = a := by
  unfold untilN
  rw [List.drop_eq_nil_of_le h]; rfl
theorem until_stop {p : UInt8 → Bool} {l r : List UInt8} {a : Nat} {c : UInt8} (h : l.drop a = c :: r) (hc : p c = true) : untilN p l a = a := by
  unfold untilN
  rw [h, List.takeWhile_cons_of_neg (by simp [hc])]; rfl
theorem drop_succ13 {l r : List UInt8} {a : Nat} {c : UInt8} (h : l.drop a = c :: r) : l.drop (a + 1) = r := by
  rw [← List.drop_drop, h]; rfl
theorem until_step {p : UInt8 → Bool} {l r : List UInt8} {a : Nat} {c : UInt8} (h : l.drop a = c :: r) (hc : p c = false) : untilN p l a = untilN p l (a + 1) := by
  unfold untilN
  rw [drop_succ13 h, h, List.takeWhile_cons_of_pos (by simp [hc]), List.length_cons]; omega
def whiteN (l : List UInt8) (a : Nat) : Nat := untilN (fun c => !whB c) l a
theorem white_drop (l : List UInt8) (a : Nat) : l.drop (whiteN l a) = (l.drop a).dropWhile whB := by
  have h := congrArg Prod.snd (until_up (fun c => !whB c) l a)
  have e : (fun c => !(fun c => !whB c) c) = whB := by funext c; simp
  unfold upL at h
  rw [e] at h
  exact h.symm
def findAt (t : List UInt8) : List UInt8 → Option Nat
  | [] => none
  | c :: r => if t.isPrefixOf (c :: r) = true then some 0 else (findAt t r).map (· + 1)
theorem findAt_le {t : List UInt8} (ht : t ≠ []) : ∀ {l : List UInt8} {k : Nat}, findAt t l = some k → k + t.length ≤ l.length
  | [], k, h => by cases h
  | c :: r, k, h => by
    unfold findAt at h
    by_cases hp : t.isPrefixOf (c :: r) = true
    · rw [if_pos hp] at h
      injection h with h
      have := (List.isPrefixOf_iff_prefix.1 hp).length_le
      omega
    · rw [if_neg hp] at h
      obtain ⟨j, hj, rfl⟩ := Option.map_eq_some_iff.1 h
      have := findAt_le ht hj
      simp only [List.length_cons]; omega
theorem findAt_short {t : List UInt8} : ∀ {l : List UInt8}, l.length < t.length → findAt t l = none
  | [], _ => rfl
  | c :: r, h => by
    unfold findAt
    rw [if_neg (fun hp => by have := (List.isPrefixOf_iff_prefix.1 hp).length_le; omega), findAt_short (by simp only [List.length_cons] at h; omega)]; rfl
theorem cut_find (t : List UInt8) : ∀ l, cutAt t l = match findAt t l with | some k => (l.take k, l.drop (k + t.length)) | none => (l, [])
  | [] => rfl
  | c :: r => by
    unfold cutAt findAt
    by_cases hp : t.isPrefixOf (c :: r) = true
    · rw [if_pos hp, if_pos hp]; simp
    · rw [if_neg hp, if_neg hp, cut_find t r]
      cases findAt t r with
      | none => rfl
      | some k => simp only [Option.map_some]; rw [show k + 1 + t.length = (k + t.length) + 1 by omega]; rfl
theorem cut_one13 (c : UInt8) : ∀ l, cutAt [c] l = (beforeC c l, afterC c l)
  | [] => rfl
  | d :: r => by
    unfold cutAt
    by_cases h : d = c
    · subst h
      rw [if_pos (by simp)]
      unfold beforeC afterC
      rw [List.takeWhile_cons_of_neg (by simp), List.dropWhile_cons_of_neg (by simp)]; rfl
    · rw [if_neg (by simpa using fun e => h e.symm), cut_one13 c r]
      unfold beforeC afterC
      rw [List.takeWhile_cons_of_pos (by simpa using h), List.dropWhile_cons_of_pos (by simpa using h)]
def idxZ (t l : List UInt8) (a : Nat) : Int := match findAt t (l.drop a) with
  | some k => ((a + k : Nat) : Int)
  | none => -1
theorem idx_here {t l r : List UInt8} {a : Nat} {c : UInt8} (h : l.drop a = c :: r) (hp : t.isPrefixOf (c :: r) = true) : idxZ t l a = a := by
  unfold idxZ findAt
  rw [h]; simp only [hp, if_true]; simp
theorem findAt_next {t r : List UInt8} {c : UInt8} (hp : t.isPrefixOf (c :: r) = false) : findAt t (c :: r) = (findAt t r).map (· + 1) := by
  conv => lhs; unfold findAt
  rw [if_neg (by rw [hp]; decide)]
theorem idx_next {t l r : List UInt8} {a : Nat} {c : UInt8} (h : l.drop a = c :: r) (hp : t.isPrefixOf (c :: r) = false) : idxZ t l a = idxZ t l (a + 1) := by
  unfold idxZ
  rw [drop_succ13 h, h, findAt_next hp]
  cases hf : findAt t r with
  | none => rfl
  | some k => simp only [Option.map_some]; omega
theorem idx_short {t l : List UInt8} {a : Nat} (h : l.length < a + t.length) (ha : a ≤ l.length) : idxZ t l a = -1 := by
  unfold idxZ
  rw [findAt_short (by rw [List.length_drop]; omega)]
theorem attrsLL_skip {dec : List UInt8 → List UInt8} {A : List AtL} {c : UInt8} {r : List UInt8} (h : whs c = true) : attrsLL dec A (c :: r) = attrsLL dec A r := by
  have hd : (c :: r).dropWhile whs = r.dropWhile whs := List.dropWhile_cons_of_pos h
  cases hr : r.dropWhile whs with
  | nil => rw [attrsLL_nil (hd.trans hr), attrsLL_nil hr]
  | cons d q =>
    by_cases h62 : d = 62
    · subst h62
      rw [attrsLL_end (hd.trans hr), attrsLL_end hr]
    · rw [attrsLL_go (hd.trans hr) h62, attrsLL_go hr h62]
theorem attrsLL_none {dec : List UInt8 → List UInt8} {A : List AtL} : attrsLL dec A [] = none := attrsLL_nil rfl
def addC (P : List TokL) (t : List UInt8) : List TokL := if t = [] then P else match P.getLast? with
  | some u => if u.kind = 1 then P.dropLast ++ [{ u with text := u.text ++ t }] else P ++ [charsT t]
  | none => [charsT t]
theorem addC_flush {L : List TokL} (h : EndsL L) (x t : List UInt8) : addC (flushT L x) t = flushT L (x ++ t) := by
  unfold addC
  by_cases ht : t = []
  · subst ht; rw [if_pos rfl, List.append_nil]
  · rw [if_neg ht]
    by_cases hx : x = []
    · subst hx
      rw [List.nil_append]
      unfold flushT
      rw [if_pos rfl, if_neg ht]
      cases hl : L.getLast? with
      | none => rw [List.getLast?_eq_none_iff.1 hl]; rfl
      | some u => simp only; rw [if_neg (h u hl)]
    · unfold flushT
      rw [if_neg hx, if_neg (by simp [hx]), List.getLast?_concat]
      simp only
      rw [if_pos (show (charsT x).kind = 1 from rfl), List.dropLast_concat]; rfl
theorem mark_row {L : List TokL} {x : List UInt8} {m : MarkR} (h : m.1 = none → m.2.1 = []) (h2 : ∀ t, m.1 = some t → t.kind ≠ 1) :
    flushT (addT L x m).1 (addT L x m).2 = flushT (flushT L x ++ m.1.toList) m.2.1 ∧ (EndsL L → EndsL (addT L x m).1) := by
  unfold addT
  cases hm : m.1 with
  | none =>
    rw [h hm]
    simp only [Option.toList, List.append_nil]
    exact ⟨by unfold flushT; simp, fun h => h⟩
  | some t =>
    simp only [Option.toList]
    exact ⟨by first | rfl | trivial, fun _ => ends_snoc (h2 t hm)⟩
def beginsN (l : List UInt8) : Nat := match l with
  | c :: q => if letterB c = true then 1 else if c = 47 then (match q with | [] => 0 | d :: _ => if letterB d = true then 2 else 3) else if c = 33 ∨ c = 63 then 4 else 0
  | [] => 0
theorem letter_no : letterB 33 = false ∧ letterB 63 = false ∧ letterB 47 = false := by decide +kernel
theorem isMark_cons (c : UInt8) (q : List UInt8) : isMarkB (60 :: c :: q) = if c = 33 ∨ c = 63 then true else if c = 47 then !q.isEmpty else letterB c := rfl
theorem begins_cons (c : UInt8) (q : List UInt8) : beginsN (c :: q) = if letterB c = true then 1 else if c = 47 then (match q with | [] => 0 | d :: _ => if letterB d = true then 2 else 3) else if c = 33 ∨ c = 63 then 4 else 0 := rfl
theorem begins_mark (r : List UInt8) : isMarkB (60 :: r) = decide (beginsN r ≠ 0) := by
  cases r with
  | nil => rfl
  | cons c q =>
    obtain ⟨n, hn⟩ : ∃ n, beginsN (c :: q) = n := ⟨_, rfl⟩
    rw [hn, isMark_cons]
    rw [begins_cons] at hn
    by_cases h1 : c = 33 ∨ c = 63
    · have hl : letterB c = false := by
        rcases h1 with rfl | rfl
        · exact letter_no.1
        · exact letter_no.2.1
      have h47 : c ≠ 47 := by rcases h1 with rfl | rfl <;> decide
      rw [hl, if_neg (by decide), if_neg h47, if_pos h1] at hn
      rw [if_pos h1, ← hn]; rfl
    · rw [if_neg h1]
      by_cases h47 : c = 47
      · subst h47
        rw [letter_no.2.2, if_neg (by decide), if_pos rfl] at hn
        rw [if_pos rfl]
        cases q with
        | nil => rw [← hn]; rfl
        | cons d e =>
          simp only at hn
          cases hd : letterB d with
          | true => rw [hd, if_pos rfl] at hn; rw [← hn]; rfl
          | false => rw [hd, if_neg (by decide)] at hn; rw [← hn]; rfl
      · rw [if_neg h47]
        cases hd : letterB c with
        | true => rw [hd, if_pos rfl] at hn; rw [← hn]; rfl
        | false => rw [hd, if_neg (by decide), if_neg h47, if_neg h1] at hn; rw [← hn]; rfl
theorem markN_next {c : UInt8} {r : List UInt8} (h : isMarkB (c :: r) = false) : markN (c :: r) = markN r + 1 := by
  conv => lhs; unfold markN
  rw [if_neg (by rw [h]; decide)]
theorem markN_here {c : UInt8} {r : List UInt8} (h : isMarkB (c :: r) = true) : markN (c :: r) = 0 := by
  unfold markN
  rw [if_pos h]
end Go.Proofs.YtiejmkjpgjbodaaGreatDoor

namespace Go.Proofs.YtiejmkjpgjbodaaGreatDoor
open Go.RowKit
set_option linter.unusedVariables false
set_option linter.unusedSimpArgs false
def spaceB (c : UInt8) : Bool := whiteSet.contains c
theorem space_case (c : UInt8) : (c = 32 ∧ spaceB c = true) ∨ (c ≠ 32 ∧ ((c = 9 ∧ spaceB c = true) ∨ (c ≠ 9 ∧ ((c = 10 ∧ spaceB c = true) ∨ (c ≠ 10 ∧ ((c = 12 ∧ spaceB c = true) ∨ (c ≠ 12 ∧ ((c = 13 ∧ spaceB c = true) ∨ (c ≠ 13 ∧ spaceB c = false))))))))) :=
  u8_all (p := fun c => (c = 32 ∧ spaceB c = true) ∨ (c ≠ 32 ∧ ((c = 9 ∧ spaceB c = true) ∨ (c ≠ 9 ∧ ((c = 10 ∧ spaceB c = true) ∨ (c ≠ 10 ∧ ((c = 12 ∧ spaceB c = true) ∨ (c ≠ 12 ∧ ((c = 13 ∧ spaceB c = true) ∨ (c ≠ 13 ∧ spaceB c = false)))))))))) (by decide +kernel) c
set_option maxHeartbeats 1000000 in
theorem space_any (c : UInt8) (w : World) :
    Calls Tryz.prog 153 #[.int .u8 c.toNat] w fun e w' => e = .returned (.bool (spaceB c)) ∧ w = w' := by
  have hcase := space_case c
  generalize spaceB c = sb at hcase
  rcases hcase with ⟨h, rfl⟩ | ⟨h1, ⟨h, rfl⟩ | ⟨h2, ⟨h, rfl⟩ | ⟨h3, ⟨h, rfl⟩ | ⟨h4, ⟨h, rfl⟩ | ⟨h5, rfl⟩⟩⟩⟩⟩
  · subst h
    go_enter Tryz.func153, Tryz.ntmps153
    go_wp2
    go_ret
    exact ⟨rfl, rfl⟩
  · subst h
    go_enter Tryz.func153, Tryz.ntmps153
    go_wp2
    go_ret
    exact ⟨rfl, rfl⟩
  · subst h
    go_enter Tryz.func153, Tryz.ntmps153
    go_wp2
    go_ret
    exact ⟨rfl, rfl⟩
  · subst h
    go_enter Tryz.func153, Tryz.ntmps153
    go_wp2
    go_ret
    exact ⟨rfl, rfl⟩
  · subst h
    go_enter Tryz.func153, Tryz.ntmps153
    go_wp2
    go_ret
    exact ⟨rfl, rfl⟩
  · have t1 : ((c.toNat : Int) == 32) = false := tF 32 h1 (by omega)
    have t2 : ((c.toNat : Int) == 9) = false := tF 9 h2 (by omega)
    have t3 : ((c.toNat : Int) == 10) = false := tF 10 h3 (by omega)
    have t4 : ((c.toNat : Int) == 12) = false := tF 12 h4 (by omega)
    have t5 : ((c.toNat : Int) == 13) = false := tF 13 h5 (by omega)
    clear h1 h2 h3 h4 h5
    go_enter Tryz.func153, Tryz.ntmps153
    go_wp2
    go_ret
    exact ⟨rfl, rfl⟩
def leftW (l : List UInt8) : List UInt8 := l.dropWhile spaceB
def rightW (l : List UInt8) : List UInt8 := (l.reverse.dropWhile spaceB).reverse
theorem rightW_snoc (l : List UInt8) (c : UInt8) : rightW (l ++ [c]) = if spaceB c then rightW l else l ++ [c] := by
  unfold rightW
  rw [List.reverse_append]
  show (List.dropWhile spaceB (c :: l.reverse)).reverse = _
  rw [List.dropWhile_cons]
  split
  · rfl
  · simp
theorem leftW_cons (c : UInt8) (l : List UInt8) : leftW (c :: l) = if spaceB c then leftW l else c :: l := by
  unfold leftW; rw [List.dropWhile_cons]
theorem trim_eq (l : List UInt8) : Lib.trimS l whiteSet = leftW (rightW l) := rfl
theorem rightW_cons {c : UInt8} (h : spaceB c = false) (l : List UInt8) : rightW (c :: l) = c :: rightW l := by
  suffices H : ∀ k : List UInt8, rightW (c :: k.reverse) = c :: rightW k.reverse by
    have := H l.reverse; rwa [List.reverse_reverse] at this
  intro k
  induction k with
  | nil =>
    show rightW ([] ++ [c]) = _
    rw [rightW_snoc, h]; rfl
  | cons d k ih =>
    rw [List.reverse_cons, ← List.cons_append, rightW_snoc, rightW_snoc, ih]
    split <;> rfl
theorem rightW_all (l : List UInt8) (h : ∀ c ∈ l, spaceB c = true) : rightW l = [] := by
  unfold rightW
  rw [List.reverse_eq_nil_iff]
  have h' : ∀ c ∈ l.reverse, spaceB c = true := fun c hc => h c (List.mem_reverse.1 hc)
  generalize l.reverse = k at h'
  induction k with
  | nil => rfl
  | cons c k ih => rw [List.dropWhile_cons, h' c (List.mem_cons_self ..)]; exact ih (fun x hx => h' x (List.mem_cons_of_mem _ hx))
theorem lr (l : List UInt8) : leftW (rightW l) = rightW (leftW l) := by
  induction l with
  | nil => rfl
  | cons c l ih =>
    cases h : spaceB c with
    | false =>
      rw [rightW_cons h, leftW_cons, leftW_cons, h]
      simp only [Bool.false_eq_true, if_false]
      rw [rightW_cons h]
    | true =>
      rw [leftW_cons, h]
      simp only [if_true]
      rw [← ih]
      by_cases hall : ∀ x ∈ l, spaceB x = true
      · rw [rightW_all l hall, rightW_all (c :: l) (fun x hx => by rcases List.mem_cons.1 hx with e | e; · rw [e]; exact h
                                                                   · exact hall x e)]
      · have key : rightW (c :: l) = c :: rightW l := by
          suffices H : ∀ k : List UInt8, (¬ ∀ x ∈ k.reverse, spaceB x = true) → rightW (c :: k.reverse) = c :: rightW k.reverse by
            have := H l.reverse; rw [List.reverse_reverse] at this; exact this hall
          intro k
          induction k with
          | nil => intro hn; exact absurd (fun x hx => by cases hx) hn
          | cons d k ihk =>
            intro hn
            rw [List.reverse_cons, ← List.cons_append, rightW_snoc, rightW_snoc]
            cases hd : spaceB d with
            | false => rfl
            | true =>
              simp only [if_true]
              refine ihk (fun hk => hn (fun x hx => ?_))
              rw [List.reverse_cons, List.mem_append] at hx
              rcases hx with hx | hx
              · exact hk x hx
              · rw [List.mem_singleton.1 hx]; exact hd
        rw [key, leftW_cons, h]; rfl
theorem snoc_of (u : ByteArray) (n : Nat) (hn : u.size = n + 1) : u.data.toList = (u.extract 0 n).data.toList ++ [u[n]'(by omega)] := by
  rw [extract_list, List.drop_zero, ← take_snoc u n (by omega), List.take_of_length_le (by rw [toList_length]; omega)]
def szOfC : Value → Nat
  | .string t => t.size
  | _ => 0
end Go.Proofs.YtiejmkjpgjbodaaGreatDoor

namespace Go.Proofs.YtiejmkjpgjbodaaGreatDoor
set_option linter.unusedVariables false
set_option linter.unusedSimpArgs false
end Go.Proofs.YtiejmkjpgjbodaaGreatDoor

namespace Go.Proofs.YtiejmkjpgjbodaaGreatDoor
set_option linter.unusedVariables false
set_option linter.unusedSimpArgs false
theorem whole_first {l : List UInt8} (h : wholeN l ≠ 0) : contB (l.getD 0 0) = false ∧ ∀ p, 0 < p → p < wholeN l → contB (l.getD p 0) = true := by
  have nc : ∀ a : UInt8, (a.toNat < 128 ∨ 192 ≤ a.toNat) → contB a = false := fun a ha => by
    cases hc : contB a with
    | false => rfl
    | true => have := (contB_iff a).1 hc; omega
  rcases whole_cases l with e | ⟨a, r, rfl, h1, e⟩ | ⟨a, b, r, rfl, h1, h2, h3, h4, e⟩ | ⟨a, b, c, r, rfl, h1, h2, h3, h4, h5, h6, e⟩ | ⟨a, b, c, d, r, rfl, h1, h2, h3, h4, h5, h6, h7, e⟩
  · exact absurd e h
  · rw [e]; exact ⟨nc a (.inl h1), fun p h0 h1 => by omega⟩
  · rw [e]; exact ⟨nc a (.inr h1), fun p h0 h1 => by
      obtain rfl : p = 1 := by omega
      exact h3⟩
  · rw [e]; exact ⟨nc a (.inr (by omega)), fun p h0 h1 => by
      obtain rfl | rfl : p = 1 ∨ p = 2 := by omega
      · exact h3
      · exact h4⟩
  · rw [e]; exact ⟨nc a (.inr (by omega)), fun p h0 h1 => by
      obtain rfl | rfl | rfl : p = 1 ∨ p = 2 ∨ p = 3 := by omega
      · exact h3
      · exact h4
      · exact h5⟩
end Go.Proofs.YtiejmkjpgjbodaaGreatDoor

namespace Go.Proofs.YtiejmkjpgjbodaaGreatDoor
open Go.RowKit
set_option linter.unusedVariables false
set_option linter.unusedSimpArgs false
theorem indexByte_high (l : List UInt8) (c : UInt8) (h : ∀ x ∈ l, x.toNat < 128) (hc : 128 ≤ c.toNat) : Lib.indexByte l c = -1 := by
  induction l with
  | nil => rfl
  | cons a r ih =>
    have ha := h a (List.mem_cons_self ..)
    have hne : (a == c) = false := by
      rw [beq_eq_false_iff_ne]; rintro rfl; omega
    simp [Lib.indexByte, hne, ih (fun x hx => h x (List.mem_cons_of_mem _ hx))]
theorem quiet_add_same {P : Program} {f : FuncId} {args : Array Value} {w : World} {a n : Nat} {v : Value}
    (h : Calls P f args (w.drewN (a + n)) fun e w' => e = .returned v ∧ w' = w.drewN (a + n)) :
    Calls P f args (w.drewN (a + n)) fun e w'' => e = .returned v ∧ ∃ m, w'' = w.drewN (a + m) :=
  h.mono fun _ _ ⟨he, hm⟩ => ⟨he, n, hm⟩
set_option maxRecDepth 100000 in
set_option maxHeartbeats 1000000 in
theorem indexRune_high (s : ByteArray) (r : Int) (w : World) (hs : s.size ≤ 100) (ha : s.data.toList.all (fun c => decide (c.toNat < 128)) = true) (h1 : 128 ≤ r) (h2 : r ≤ 2147483647) :
    Calls Tryz.prog 231 #[.string s, .int .i32 r] w fun e w' => e = .returned (.int .i64 (-1)) ∧ Below w.heap.size w w' := by
  have h3 : ¬ r < 128 := by omega
  have h4 : 0 ≤ r := by omega
  by_cases he : r = 65533
  · subst he
    have HA := hide ha
    clear ha
    go_enter Tryz.func231, Tryz.ntmps231
    go_wp2
    go_loopw [5, 6] (fun _ _ wr => ∃ pos : Nat, pos ≤ s.size ∧ wr = w.iter s pos) (fun _ _ wr => s.size - wr.iterPos w.heap.size)
    case atStart => exact ⟨0, Nat.zero_le _, rfl⟩
    case round =>
      obtain ⟨pos, hp, rfl⟩ := hrel
      by_cases hlt : pos < s.size
      · obtain ⟨x, hx, hx1, hnx⟩ := next_ascii (P := Tryz.prog) w s pos hlt HA.out
        clear hx
        have hne : ((x.toNat : Int) == 65533) = false := by rw [beq_eq_false_iff_ne]; omega
        go_wp2
        go_roundw
        case rel => exact ⟨pos + 1, by omega, rfl⟩
        case measure => simp; omega
      · obtain rfl : pos = s.size := by omega
        have hnx := run_next_end (P := Tryz.prog) w s s.size
        go_wp2
        go_ret
        exact ⟨rfl, iter_below _ _ _⟩
  · have hne : (r == 65533) = false := by rw [beq_eq_false_iff_ne]; exact he
    cases hv : Utf8.valid r with
    | false =>
      have HV : Hid (Lib.validRune r = false) := hide (by rw [show Lib.validRune r = Go.validRune r from rfl, ← validRune_eq]; exact hv)
      clear hv he
      go_enter Tryz.func231, Tryz.ntmps231
      go_wp2_with fail
      refine (Tryz.utf8_ValidRune r _).mono ?_
      rintro e w' ⟨rfl, hw⟩
      subst hw
      rw [HV.out]
      go_wp2_with fail
      go_ret
      exact ⟨rfl, Below.refl _ _⟩
    | true =>
      obtain ⟨e1, e2, e3⟩ := encode_facts r hv h1
      have HV : Hid (Lib.validRune r = true) := hide (by rw [show Lib.validRune r = Go.validRune r from rfl, ← validRune_eq]; exact hv)
      clear hv he
      obtain ⟨E, hE⟩ : ∃ E, E = Utf8.encode r := ⟨_, rfl⟩
      rw [← hE] at e1 e2 e3
      have hcv : ∀ w : World, (convert 21 9 (.int .i32 r)).run Tryz.prog w = .ok (.string E) w := fun w => by
        rw [hE]; exact run_convert_int_string w 21 9 .i32 r (by rw [Tryz.underlying21]; rfl) Tryz.underlying9
      clear hE
      obtain ⟨m, hm⟩ : ∃ m : Nat, E.size = m + 1 := ⟨E.size - 1, by omega⟩
      have hm1 : m < E.size := by omega
      have hb : 128 ≤ (E[m]'hm1).toNat := by
        have : ∀ j (h : j < E.size), j = E.size - 1 → 128 ≤ (E[j]'h).toNat := fun j h e => by subst e; exact e3 h
        exact this m hm1 (by omega)
      have hmm : (m : Int) < (m : Int) + 1 := by omega
      have hw : IntKind.i64.wrap ((m : Int) + 1) = (m : Int) + 1 := IntWalk.i64_in _ (by omega)
      clear e3
      by_cases hlt : m < s.size
      · have hsm : (s[m]'hlt).toNat < 128 := by
          have := List.all_eq_true.1 ha s[m] (by rw [← Array.mem_def]; exact Array.getElem_mem (by exact hlt))
          simpa using this
        have hne2 : ((s[m].toNat : Int) != (E[m].toNat : Int)) = true := by
          rw [bne_iff_ne]; omega
        have hix : Lib.indexByte (s.extract (m + 1) s.size).data.toList (E[m].toNat : Int).toNat.toUInt8 = -1 := by
          refine indexByte_high _ _ (fun x hx => ?_) (by simp; exact hb)
          have := List.all_eq_true.1 ha x (mem_extract hx)
          simpa using this
        have HIX := hide hix
        have o0 : (0 : Int) ≤ m := by omega
        have o1 : (m : Int) + 1 ≤ s.size := by omega
        have o3 : (0 : Int) ≤ (m : Int) + 1 := by omega
        have o4 : ((m : Int) + 1).toNat = m + 1 := by omega
        clear ha hb hix
        go_enter Tryz.func231, Tryz.ntmps231
        go_wp2_with fail
        refine (Tryz.utf8_ValidRune r _).mono ?_
        rintro e w' ⟨rfl, hw⟩
        subst hw
        rw [HV.out]
        go_wp2_with fail
        go_step3
        go_wp2
        go_loop [9, 10, 11, 12] (fun i f _ _ => i = .int .i64 m ∧ f = .int .i64 0) (fun _ _ _ _ => 0)
        case atStart => exact ⟨rfl, rfl⟩
        case round =>
          obtain ⟨rfl, rfl⟩ := hrel
          go_wp2
          go_step3
          go_wp2
          go_quiet (fail)
          go_wp2
          go_quiet ((go_at_call 205; exact quiet_add_same (Tryz.strings_IndexByte _ _ _)))
          rw [HIX.out]
          go_wp2
          simp +zetaDelta only [Exit.noGoto_ret, go_sem]
          go_ret
          exact ⟨rfl, ⟨rfl, rfl, rfl, Nat.le_refl _, fun _ _ => rfl⟩⟩
      · have o4 : ((m : Int) + 1).toNat = m + 1 := by omega
        clear ha hb
        go_enter Tryz.func231, Tryz.ntmps231
        go_wp2_with fail
        refine (Tryz.utf8_ValidRune r _).mono ?_
        rintro e w' ⟨rfl, hw⟩
        subst hw
        rw [HV.out]
        go_wp2_with fail
        go_step3
        go_wp2
        go_loop [9, 10, 11, 12] (fun i f _ _ => i = .int .i64 m ∧ f = .int .i64 0) (fun _ _ _ _ => 0)
        case atStart => exact ⟨rfl, rfl⟩
        case round =>
          obtain ⟨rfl, rfl⟩ := hrel
          go_wp2
          try simp +zetaDelta only [Exit.noGoto_ret, go_sem]
          go_ret
          exact ⟨rfl, Below.refl _ _⟩
theorem decode_high_or (s : ByteArray) (pos : Nat) (h : pos < s.size) : (s[pos].toNat < 128 ∧ Utf8.decode s pos = (s[pos].toNat, 1)) ∨ (128 ≤ s[pos].toNat ∧ 128 ≤ (Utf8.decode s pos).1 ∧ 1 ≤ (Utf8.decode s pos).2) := by
  by_cases ha : s[pos].toNat < 128
  · refine .inl ⟨ha, ?_⟩
    simp only [Utf8.decode, get_at s pos h, ha, if_true]
  · exact .inr ⟨by omega, decode_high s pos h (by omega)⟩
theorem not_contains_high {l : List UInt8} (h : l.all (fun c => decide (c.toNat < 128)) = true) {c : UInt8} (hc : 128 ≤ c.toNat) : l.contains c = false := by
  cases hm : l.contains c with
  | false => rfl
  | true =>
    have := List.all_eq_true.1 h c (by simpa using hm)
    have h2 : c.toNat < 128 := by simpa using this
    omega
theorem decode_span (s : ByteArray) (pos : Nat) (h : pos < s.size) (ha : 128 ≤ s[pos].toNat) : ∀ j, pos ≤ j → j < pos + (Utf8.decode s pos).2 → ∀ b, s.data.toList[j]? = some b → 128 ≤ b.toNat := by
  intro j h1 h2 b hb
  rcases Nat.eq_or_lt_of_le h1 with rfl | h1
  · rw [List.getElem?_eq_getElem (by rw [toList_length]; exact h)] at hb
    rw [← Option.some.inj hb]; exact ha
  · have hj : j < s.size := by have := (List.getElem?_eq_some_iff.1 hb).1; rwa [toList_length] at this
    have e := decode_decL s pos h
    have hsp := decL_spec (s.data.toList.drop pos) (by rw [drop_cons s pos h]; simp)
    rw [e, hsp.2.1] at h2
    by_cases hz : wholeN (s.data.toList.drop pos) = 0
    · rw [vStep_zero hz] at h2
      simp at h2; omega
    · rw [vStep_pos rfl hz] at h2
      simp only at h2
      have hw := whole_first hz
      have := hw.2 (j - pos) (by omega) (by omega)
      rw [List.getD_eq_getElem?_getD, List.getElem?_drop, Nat.add_sub_cancel' (by omega), hb] at this
      have := (contB_iff b).1 this
      omega
theorem decode_end (s : ByteArray) (pos : Nat) (h : pos < s.size) : pos + (Utf8.decode s pos).2 ≤ s.size := by
  have hne : s.data.toList.drop pos ≠ [] := by rw [drop_cons s pos h]; simp
  have hsp := decL_spec _ hne
  have hst := vStep_pos' _ hne
  rw [List.length_drop, toList_length] at hst
  rw [decode_decL s pos h, hsp.2.1]; omega
end Go.Proofs.YtiejmkjpgjbodaaGreatDoor

namespace Go.Proofs.YtiejmkjpgjbodaaGreatDoor
open Go.RowKit
set_option linter.unusedVariables false
set_option linter.unusedSimpArgs false
theorem noAny_step {s : ByteArray} {cs : List UInt8} {pos n : Nat} (h : Lib.NoAny s.data.toList cs pos) (hn : ∀ j, pos ≤ j → j < pos + n → ∀ b, s.data.toList[j]? = some b → cs.contains b = false) : Lib.NoAny s.data.toList cs (pos + n) := by
  intro j b hj hb
  rcases Nat.lt_or_ge j pos with h1 | h1
  · exact h j b h1 hb
  · exact hn j h1 hj b hb
set_option maxRecDepth 100000 in
set_option maxHeartbeats 1000000 in
theorem indexAny_short (s cs : ByteArray) (w : World) (h2 : 2 ≤ cs.size) (hcs : cs.size ≤ 100) (h8 : s.size ≤ 8) (ha : cs.data.toList.all (fun c => decide (c.toNat < 128)) = true) :
    Calls Tryz.prog 197 #[.string s, .string cs] w fun e w' => e = .returned (.int .i64 (Lib.indexAny s.data.toList cs.data.toList)) ∧ Below w.heap.size w w' := by
  have hemp : cs.toList.isEmpty = false := by
    rw [Lib.toList_data]
    cases h : cs.data.toList with
    | nil => have := Lib.size_eq cs; rw [h, List.length_nil] at this; omega
    | cons _ _ => rfl
  have hn1 : ((cs.size : Int) == 1) = false := beq_eq_false_iff_ne.2 (by omega)
  have h8z : decide ((8 : Int) < (s.size : Int)) = false := decide_eq_false (by omega)
  have HA := hide ha
  clear ha
  go_enter Tryz.func197, Tryz.ntmps197
  go_wp2_with fail
  refine (Tryz.strings_shouldUseASCIISet _ _).mono ?_
  rintro e w1 ⟨rfl, hw1⟩
  subst hw1
  rw [h8z]
  go_wp2_with fail
  have hit : (w1.iter s 0).heap[w1.heap.size]? = some (Obj.stringIter s 0) := heap_alloc_new w1 _
  have hb0 : Below w1.heap.size w1 (w1.iter s 0) := iter_below w1 s 0
  have hg0 : w1.heap.size < (w1.iter s 0).heap.size := (Array.getElem?_eq_some_iff.1 hit).1
  go_loopw [9, 10] (fun _ _ wr => ∃ pos : Nat, pos ≤ s.size ∧ wr.heap[w1.heap.size]? = some (Obj.stringIter s pos) ∧ Below w1.heap.size w1 wr ∧ Lib.NoAny s.data.toList cs.data.toList pos) (fun _ _ wr => s.size - wr.iterPos w1.heap.size)
  case atStart => exact ⟨0, Nat.zero_le _, hit, hb0, Lib.NoAny.zero _ _⟩
  case round =>
    obtain ⟨pos, hpos, hk, hb, hno⟩ := hrel
    have HK := hide hk
    have HB := hide hb
    have HN := hide hno
    have hsz : w1.heap.size < wr.heap.size := (Array.getElem?_eq_some_iff.1 hk).1
    clear hk hb hno
    by_cases hlt : pos < s.size
    · have hnx := fun ty => Lib.run_next_any_at (P := Tryz.prog) wr w1.heap.size s pos ty HK.out hlt
      have hle := decode_le s pos
      rcases decode_high_or s pos hlt with ⟨hx, hdec⟩ | ⟨hx, hd1, hd2⟩
      · rw [hdec] at hnx
        have hg : s.data.toList[pos]? = some s[pos] := by rw [List.getElem?_eq_getElem (by rw [toList_length]; exact hlt)]; rfl
        have hcon := Lib.contains_iff_indexByte cs.data.toList s[pos]
        have hback : ((s[pos].toNat : Int)).toNat.toUInt8 = s[pos] := by simp
        have HI := hide (Lib.iterAt_heap wr w1.heap.size s pos (pos + 1) HK.out)
        have HB1 := hide (Lib.below_iterAt HB.out (Nat.le_refl _) s (pos + 1))
        have HG := hide hg
        clear hdec hg
        cases hin : cs.data.toList.contains s[pos]
        · rw [hin] at hcon
          have hlt2 : ¬ ((0 : Int) ≤ Lib.indexByte cs.data.toList s[pos]) := of_decide_eq_false hcon.symm
          have HIN := hide hin
          clear hcon hin
          go_wp2_with fail
          refine (Tryz.strings_IndexRune_ascii _ _ _ (by omega) (by omega)).mono ?_
          rintro e w2 ⟨rfl, hw2⟩
          subst hw2
          rw [hback]
          go_wp2_with fail
          go_roundw
          case rel => exact ⟨pos + 1, by omega, HI.out, HB1.out, HN.out.succ HG.out HIN.out⟩
          case measure =>
            rw [show World.iterPos (World.iterAt wr w1.heap.size s (pos + 1)) w1.heap.size = pos + 1 by unfold World.iterPos; rw [HI.out], show World.iterPos wr w1.heap.size = pos by unfold World.iterPos; rw [HK.out]]
            omega
        · rw [hin] at hcon
          have hge : (0 : Int) ≤ Lib.indexByte cs.data.toList s[pos] := of_decide_eq_true hcon.symm
          have HIN := hide hin
          clear hcon hin
          go_wp2_with fail
          refine (Tryz.strings_IndexRune_ascii _ _ _ (by omega) (by omega)).mono ?_
          rintro e w2 ⟨rfl, hw2⟩
          subst hw2
          rw [hback]
          go_wp2_with fail
          go_ret
          exact ⟨ret_int (by rw [Lib.indexAny_hit HN.out HG.out HIN.out]), HB1.out⟩
      · have hsp := decode_span s pos hlt hx
        have hle2 := decode_end s pos hlt
        generalize Utf8.decode s pos = dl at hnx hd1 hd2 hle hsp hle2
        obtain ⟨r, n⟩ := dl
        simp only at hnx hd1 hd2 hle hsp hle2
        have HI := hide (Lib.iterAt_heap wr w1.heap.size s pos (pos + n) HK.out)
        have HB1 := hide (Lib.below_iterAt HB.out (Nat.le_refl _) s (pos + n))
        have HN2 := hide (noAny_step HN.out fun j h1 h2 b hb => not_contains_high HA.out (hsp j h1 h2 b hb))
        clear hsp
        go_wp2_with fail
        refine (indexRune_high cs (r : Int) _ (by omega) HA.out (by omega) (by omega)).mono ?_
        rintro e w2 ⟨rfl, hb2⟩
        have HI2 := hide ((hb2.block _ (by rw [Lib.iterAt_size]; exact hsz)).trans HI.out)
        have HB2 := hide (HB1.out.trans (hb2.mono (by rw [Lib.iterAt_size]; exact HB.out.size)))
        clear hb2
        go_wp2_with fail
        go_roundw
        case rel => exact ⟨pos + n, by omega, HI2.out, HB2.out, HN2.out⟩
        case measure =>
          have e1 : World.iterPos w2 w1.heap.size = pos + n := by unfold World.iterPos; rw [HI2.out]
          have e2 : World.iterPos wr w1.heap.size = pos := by unfold World.iterPos; rw [HK.out]
          rw [e1, e2]; omega
    · have hnx := fun ty => Lib.run_next_end_at (P := Tryz.prog) wr w1.heap.size s pos ty HK.out hlt
      go_wp2
      go_ret
      exact ⟨ret_int (by rw [Lib.indexAny_none (by rw [← Lib.size_eq]; exact fun j b hj => HN.out j b (by omega))]), HB.out⟩
theorem indexAny_any (s cs : ByteArray) (w : World) (h2 : 2 ≤ cs.size) (hcs : cs.size ≤ 100) (hs : s.size ≤ 16777216) (ha : cs.data.toList.all (fun c => decide (c.toNat < 128)) = true) :
    Calls Tryz.prog 197 #[.string s, .string cs] w fun e w' => e = .returned (.int .i64 (Lib.indexAny s.data.toList cs.data.toList)) ∧ Below w.heap.size w w' := by
  by_cases h8 : s.size ≤ 8
  · exact indexAny_short s cs w h2 hcs h8 ha
  · exact (Tryz.strings_IndexAny_long (zero_of_info (n := 256) (by kernel_rfl)).1 s cs w h2 (by omega) (by omega) (by omega) (ascii_of_all ha)).mono fun e w' ⟨he, hw⟩ => ⟨he, by rw [hw]; exact ((Below.refl _ _).alloc (Nat.le_refl _) _).alloc (by simp) _⟩
end Go.Proofs.YtiejmkjpgjbodaaGreatDoor

namespace Go.Proofs.YtiejmkjpgjbodaaGreatDoor
open Go.RowKit
set_option linter.unusedVariables false
set_option linter.unusedSimpArgs false
set_option maxRecDepth 100000
theorem letterW_any (c : UInt8) (w : World) :
    Calls Tryz.prog 120 #[.int .u8 c.toNat] w fun e w' => e = .returned (.bool (letterB c)) ∧ w = w' := by
  have hc := byte_lt c
  rcases letter_case c with ⟨c1, c2, e⟩ | ⟨c1, c2, c3, e⟩ | ⟨c1, c2, e⟩ | ⟨c1, c2, c3, e⟩ | ⟨c1, c2, e⟩
  all_goals
    rw [e]; clear e
    go_enter Tryz.func120, Tryz.ntmps120
    go_wp2
    go_ret
    exact ⟨ret_bool (by first | rfl | (simp; omega)), rfl⟩
end Go.Proofs.YtiejmkjpgjbodaaGreatDoor

namespace Go.Proofs.YtiejmkjpgjbodaaGreatDoor
open Go.RowKit
set_option linter.unusedVariables false
set_option linter.unusedSimpArgs false
set_option maxRecDepth 100000
theorem indexAny_up (cs : List UInt8) : ∀ l : List UInt8, (Lib.indexAny l cs = -1 ∧ l.takeWhile (fun c => !cs.contains c) = l ∧ l.dropWhile (fun c => !cs.contains c) = []) ∨
    ∃ o : Nat, Lib.indexAny l cs = o ∧ o < l.length ∧ l.takeWhile (fun c => !cs.contains c) = l.take o ∧ l.dropWhile (fun c => !cs.contains c) = l.drop o
  | [] => .inl ⟨rfl, rfl, rfl⟩
  | c :: r => by
    cases hc : cs.contains c with
    | true => exact .inr ⟨0, by simp only [Lib.indexAny, hc, if_true]; rfl, Nat.succ_pos _, by simp only [List.takeWhile_cons, hc, Bool.not_true]; rfl, by simp only [List.dropWhile_cons, hc, Bool.not_true]; rfl⟩
    | false =>
      rcases indexAny_up cs r with ⟨h1, h2, h3⟩ | ⟨o, h1, h2, h3, h4⟩
      · exact .inl ⟨by simp only [Lib.indexAny, hc, h1]; rfl, by simp only [List.takeWhile_cons, hc, Bool.not_false, if_true, h2], by simp only [List.dropWhile_cons, hc, Bool.not_false, if_true, h3]⟩
      · have hne : ((o : Int) == -1) = false := by rw [beq_eq_false_iff_ne]; omega
        exact .inr ⟨o + 1, by simp only [Lib.indexAny, hc, h1]; rw [if_neg Bool.false_ne_true, if_neg (by rw [hne]; exact Bool.false_ne_true)]; rfl, Nat.succ_lt_succ h2, by simp only [List.takeWhile_cons, hc, Bool.not_false, if_true, h3, List.take_succ_cons], by simp only [List.dropWhile_cons, hc, Bool.not_false, if_true, h4, List.drop_succ_cons]⟩
def upV (x : List UInt8 × List UInt8) : Value := .tuple #[.string (str x.1), .string (str x.2)]
set_option maxHeartbeats 2000000 in
theorem upTo0_any (s cs : ByteArray) (p : UInt8 → Bool) (w : World) (hp : ∀ c, cs.data.toList.contains c = p c) (hs : s.size ≤ 16777216) (h2 : 2 ≤ cs.size) (hcs : cs.size ≤ 100) (ha : cs.data.toList.all (fun c => decide (c.toNat < 128)) = true) :
    Calls Tryz.prog 173 #[.string s, .int .i64 0, .string cs] w fun e w' => e = .returned (upV (upL p s.data.toList)) ∧ Below w.heap.size w w' := by
  have HI := hide (fun w2 => indexAny_any s cs w2 h2 hcs hs ha)
  have hup : upL p s.data.toList = (s.data.toList.takeWhile (fun c => !cs.data.toList.contains c), s.data.toList.dropWhile (fun c => !cs.data.toList.contains c)) := by
    unfold upL
    rw [show (fun c => !p c) = (fun c => !cs.data.toList.contains c) from funext fun c => by rw [hp]]
  rcases indexAny_up cs.data.toList s.data.toList with ⟨i1, i2, i3⟩ | ⟨o, i1, i2, i3, i4⟩
  · rw [i1] at HI
    have HR : Hid (upV (upL p s.data.toList) = .tuple #[.string s, .string ⟨#[]⟩]) := hide (by rw [hup, i2, i3]; unfold upV; rw [str_of]; rfl)
    clear hup i1 i2 i3 ha hp
    go_enter Tryz.func173, Tryz.ntmps173
    go_wp2_with fail
    refine (HI.out _).mono ?_
    rintro e w1 ⟨rfl, hb1⟩
    have HB := hide hb1
    clear hb1
    go_wp2_with fail
    go_ret2
    exact ⟨by rw [HR.out]; rfl, HB.out⟩
  · rw [i1] at HI
    rw [toList_length] at i2
    have HR : Hid (upV (upL p s.data.toList) = .tuple #[.string (s.extract 0 o), .string (s.extract o s.size)]) := hide (by
      rw [hup, i3, i4]
      unfold upV
      rw [show str (s.data.toList.take o) = s.extract 0 o from ext_list (by rw [str_toList, extract_list, List.drop_zero]), show str (s.data.toList.drop o) = s.extract o s.size from ext_list (by rw [str_toList, extract_end])])
    have q0 : (0 : Int) ≤ o := by omega
    have q1 : (o : Int) ≤ s.size := by omega
    have q2 : IntKind.i64.wrap (o : Int) = (o : Int) := IntWalk.i64_in _ (by omega)
    have q3 : IntKind.i64.wrap (0 + (o : Int)) = (o : Int) := by rw [Int.zero_add]; exact q2
    clear hup i1 i2 i3 i4 ha hp
    go_enter Tryz.func173, Tryz.ntmps173
    go_wp2_with fail
    refine (HI.out _).mono ?_
    rintro e w1 ⟨rfl, hb1⟩
    have HB := hide hb1
    clear hb1
    go_wp2_with fail
    go_quiet (fail)
    try go_wp2_with fail
    go_ret2
    exact ⟨by rw [HR.out]; rfl, HB.out.trans ⟨rfl, rfl, rfl, Nat.le_refl _, fun _ _ => rfl⟩⟩
def up1L (p : UInt8 → Bool) (l : List UInt8) : List UInt8 × List UInt8 := (l.take 1 ++ (upL p (l.drop 1)).1, (upL p (l.drop 1)).2)
set_option maxHeartbeats 2000000 in
theorem upTo1_any (s cs : ByteArray) (p : UInt8 → Bool) (w : World) (hp : ∀ c, cs.data.toList.contains c = p c) (hs : s.size ≤ 16777216) (h1 : 1 ≤ s.size) (h2 : 2 ≤ cs.size) (hcs : cs.size ≤ 100) (ha : cs.data.toList.all (fun c => decide (c.toNat < 128)) = true) :
    Calls Tryz.prog 173 #[.string s, .int .i64 1, .string cs] w fun e w' => e = .returned (upV (up1L p s.data.toList)) ∧ Below w.heap.size w w' := by
  have hez : (s.extract 1 s.size).size ≤ 16777216 := by rw [ByteArray.size_extract]; omega
  have hel : (s.extract 1 s.size).data.toList = s.data.toList.drop 1 := extract_end s 1
  have HI := hide (fun w2 => indexAny_any (s.extract 1 s.size) cs w2 h2 hcs hez ha)
  rw [hel] at HI
  have hup : upL p (s.data.toList.drop 1) = ((s.data.toList.drop 1).takeWhile (fun c => !cs.data.toList.contains c), (s.data.toList.drop 1).dropWhile (fun c => !cs.data.toList.contains c)) := by
    unfold upL
    rw [show (fun c => !p c) = (fun c => !cs.data.toList.contains c) from funext fun c => by rw [hp]]
  have r0 : (1 : Int) ≤ s.size := by omega
  rcases indexAny_up cs.data.toList (s.data.toList.drop 1) with ⟨i1, i2, i3⟩ | ⟨o, i1, i2, i3, i4⟩
  · rw [i1] at HI
    have HR : Hid (upV (up1L p s.data.toList) = .tuple #[.string s, .string ⟨#[]⟩]) := hide (by
      unfold up1L
      rw [hup, i2, i3]; unfold upV; rw [List.take_append_drop, str_of]; rfl)
    clear hup i1 i2 i3 ha hp hel hez
    go_enter Tryz.func173, Tryz.ntmps173
    go_wp2_with fail
    refine (HI.out _).mono ?_
    rintro e w1 ⟨rfl, hb1⟩
    have HB := hide hb1
    clear hb1
    go_wp2_with fail
    go_ret2
    exact ⟨by rw [HR.out]; rfl, HB.out⟩
  · rw [i1] at HI
    rw [List.length_drop, toList_length] at i2
    have HR : Hid (upV (up1L p s.data.toList) = .tuple #[.string (s.extract 0 (1 + o)), .string (s.extract (1 + o) s.size)]) := hide (by
      unfold up1L
      rw [hup, i3, i4]
      unfold upV
      rw [show str (s.data.toList.take 1 ++ (s.data.toList.drop 1).take o) = s.extract 0 (1 + o) from ext_list (by rw [str_toList, extract_list, List.drop_zero, List.take_add]), show str ((s.data.toList.drop 1).drop o) = s.extract (1 + o) s.size from ext_list (by rw [str_toList, extract_end, List.drop_drop])])
    have q0 : (0 : Int) ≤ 1 + (o : Int) := by omega
    have q1 : 1 + (o : Int) ≤ s.size := by omega
    have q2 : IntKind.i64.wrap (1 + (o : Int)) = 1 + (o : Int) := IntWalk.i64_in _ (by omega)
    have q3 : (1 + (o : Int)).toNat = 1 + o := by omega
    have q4 : (0 : Int) ≤ o := by omega
    clear hup i1 i2 i3 i4 ha hp hel hez
    go_enter Tryz.func173, Tryz.ntmps173
    go_wp2_with fail
    refine (HI.out _).mono ?_
    rintro e w1 ⟨rfl, hb1⟩
    have HB := hide hb1
    clear hb1
    go_wp2_with fail
    go_quiet (fail)
    try go_wp2_with fail
    go_ret2
    exact ⟨by rw [HR.out]; rfl, HB.out.trans ⟨rfl, rfl, rfl, Nat.le_refl _, fun _ _ => rfl⟩⟩
end Go.Proofs.YtiejmkjpgjbodaaGreatDoor

namespace Go.Proofs.YtiejmkjpgjbodaaGreatDoor
open Go.RowKit
set_option linter.unusedVariables false
set_option linter.unusedSimpArgs false
set_option maxRecDepth 100000
theorem space_wh (c : UInt8) : spaceB c = whB c := u8_all (p := fun c => spaceB c = whB c) (by decide +kernel) c
theorem space13_any (c : UInt8) (w : World) : Calls Tryz.prog 153 #[.int .u8 c.toNat] w fun e w' => e = .returned (.bool (whB c)) ∧ w = w' := by
  rw [← space_wh]; exact space_any c w
theorem ret_int13 {a b : Int} (h : a = b) : Ending.returned (Value.int .i64 a) = Ending.returned (Value.int .i64 b) := by rw [h]
theorem drew_on' {w w' : World} (h : ∃ m, w' = w.drewN m) (n : Nat) : ∃ m, w'.drewN n = w.drewN m := by
  obtain ⟨m, rfl⟩ := h
  exact ⟨m + n, by rw [World.drewN_drewN]⟩
set_option maxHeartbeats 4000000 in
theorem until13_any (s : ByteArray) (a : Nat) (o : ByteArray) (p : UInt8 → Bool) (w : World) (ha : a ≤ s.size) (hs : s.size ≤ 16777216) (ho : o.size ≤ 100) (hp : ∀ c, p c = (whB c || o.data.toList.contains c)) :
    Calls Tryz.prog 130 #[.string s, .int .i64 a, .string o] w fun e w' => e = .returned (.int .i64 (untilN p s.data.toList a : Nat)) ∧ ∃ m, w' = w.drewN m := by
  have HP := hide hp
  clear hp
  go_enter Tryz.func130, Tryz.ntmps130
  go_wp2_with fail
  go_loopw [1] (fun av wr => ∃ k : Nat, k ≤ s.size ∧ av = .int .i64 k ∧ Hid (untilN p s.data.toList k = untilN p s.data.toList a) ∧ Hid (∃ m, wr = w.drewN m)) (fun av _ => s.size - (intOf av).toNat)
  case atStart => exact ⟨a, ha, rfl, hide rfl, hide ⟨0, rfl⟩⟩
  case round =>
    obtain ⟨k, hk, rfl, HU, HW⟩ := hrel
    by_cases hlt : k < s.size
    · have hd := drop_cons s k hlt
      have HSP := hide (fun w2 => space13_any s[k] w2)
      obtain ⟨c, hc⟩ : ∃ c, s[k] = c := ⟨_, rfl⟩
      have hcn : (s[k]'hlt).toNat = c.toNat := by rw [hc]
      rw [hc] at hd
      have HD := hide hd
      have HC := hide hc
      cases hw : whB c with
      | true =>
        have HR : Hid ((k : Int) = (untilN p s.data.toList a : Nat)) := hide (by
          rw [← HU.out, until_stop hd (by rw [HP.out, hw]; rfl)])
        rw [hc, hw] at HSP
        clear hw hd hc HD HU
        go_wp2_with (go_at_call 153; refine (HSP.out _).mono ?_; rintro e w2 ⟨rfl, rfl⟩)
        go_ret
        exact ⟨ret_int13 HR.out, HW.out⟩
      | false =>
        have HPC : Hid (p c = o.data.toList.contains c) := hide (by rw [HP.out, hw]; rfl)
        rw [hc, hw] at HSP
        clear hw hd hc
        go_wp2_with (go_at_call 153; refine (HSP.out _).mono ?_; rintro e w2 ⟨rfl, rfl⟩)
        go_loopw [7] (fun iv wr => ∃ i : Nat, i ≤ o.size ∧ iv = .int .i64 i ∧ Hid (c ∉ o.data.toList.take i) ∧ Hid (∃ m, wr = w.drewN m)) (fun iv _ => o.size - (intOf iv).toNat)
        case atStart => exact ⟨0, Nat.zero_le _, rfl, hide (by simp), HW⟩
        case round =>
          obtain ⟨i, hi, rfl, HN, HW2⟩ := hrel
          by_cases hil : i < o.size
          · by_cases he : o[i] = c
            · have te : ((c.toNat : Int) == (o[i].toNat : Int)) = true := by rw [he]; exact beq_self_eq_true _
              have HR : Hid ((k : Int) = (untilN p s.data.toList a : Nat)) := hide (by
                have hin : c ∈ o.data.toList := by
                  rw [← he]
                  have : o[i] = o.data.toList[i]'(by rw [toList_length]; exact hil) := rfl
                  rw [this]; exact List.getElem_mem _
                rw [← HU.out, until_stop HD.out (by rw [HPC.out]; simpa using hin)])
              clear he
              go_wp2_with fail
              go_quiet (fail)
              go_wp2_with fail
              go_ret
              exact ⟨ret_int13 HR.out, drew_on' HW2.out nq⟩
            · have te : ((c.toNat : Int) == (o[i].toNat : Int)) = false := by
                rw [beq_eq_false_iff_ne]
                intro e
                exact he (UInt8.toNat_inj.1 (by omega))
              have HN2 : Hid (c ∉ o.data.toList.take (i + 1)) := hide (by
                rw [take_snoc o i hil, List.mem_append, List.mem_singleton]
                exact fun e => e.elim HN.out (fun e => he e.symm))
              clear he
              go_wp2_with fail
              go_quiet (fail)
              go_wp2_with fail
              go_roundw
              case rel => exact ⟨i + 1, by omega, by go_num, HN2, hide (drew_on' HW2.out nq)⟩
              case measure => simp [intOf]; omega
          · have HU2 : Hid (untilN p s.data.toList (k + 1) = untilN p s.data.toList a) := hide (by
              have hno := HN.out
              rw [List.take_of_length_le (by rw [toList_length]; omega)] at hno
              rw [← HU.out, until_step HD.out (by rw [HPC.out]; simpa using hno)])
            go_wp2_with fail
            go_roundw
            case rel => exact ⟨k + 1, by omega, by go_num, HU2, HW2⟩
            case measure => simp [intOf]; omega
    · have HR : Hid ((k : Int) = (untilN p s.data.toList a : Nat)) := hide (by
        rw [← HU.out, until_past (by rw [toList_length]; omega)])
      go_wp2_with fail
      go_ret
      exact ⟨ret_int13 HR.out, HW.out⟩
set_option maxHeartbeats 4000000 in
theorem white13_any (s : ByteArray) (a : Nat) (w : World) (ha : a ≤ s.size) (hs : s.size ≤ 16777216) :
    Calls Tryz.prog 154 #[.string s, .int .i64 a] w fun e w' => e = .returned (.int .i64 (whiteN s.data.toList a : Nat)) ∧ w = w' := by
  go_enter Tryz.func154, Tryz.ntmps154
  go_wp2_with fail
  go_loop [1] (fun av => ∃ k : Nat, k ≤ s.size ∧ av = .int .i64 k ∧ Hid (whiteN s.data.toList k = whiteN s.data.toList a)) (fun av => s.size - (intOf av).toNat)
  case atStart => exact ⟨a, ha, rfl, hide rfl⟩
  case round =>
    obtain ⟨k, hk, rfl, HU⟩ := hrel
    by_cases hlt : k < s.size
    · have hd := drop_cons s k hlt
      have HSP := hide (fun w2 => space13_any s[k] w2)
      obtain ⟨c, hc⟩ : ∃ c, s[k] = c := ⟨_, rfl⟩
      have hcn : (s[k]'hlt).toNat = c.toNat := by rw [hc]
      rw [hc] at hd HSP
      cases hw : whB c with
      | false =>
        have HR : Hid ((k : Int) = (whiteN s.data.toList a : Nat)) := hide (by
          rw [← HU.out]; unfold whiteN
          rw [until_stop hd (by rw [hw]; rfl)])
        rw [hw] at HSP
        clear hw hd hc HU
        go_wp2_with (go_at_call 153; refine (HSP.out _).mono ?_; rintro e w2 ⟨rfl, rfl⟩)
        go_ret
        exact ⟨ret_int13 HR.out, rfl⟩
      | true =>
        have HU2 : Hid (whiteN s.data.toList (k + 1) = whiteN s.data.toList a) := hide (by
          rw [← HU.out]; unfold whiteN
          rw [← until_step hd (by rw [hw]; rfl)])
        rw [hw] at HSP
        clear hw hd hc HU
        go_wp2_with (go_at_call 153; refine (HSP.out _).mono ?_; rintro e w2 ⟨rfl, rfl⟩)
        go_round
        case rel => exact ⟨k + 1, by omega, by go_num, HU2⟩
        case measure => simp [intOf]; omega
    · have HR : Hid ((k : Int) = (whiteN s.data.toList a : Nat)) := hide (by
        rw [← HU.out]; unfold whiteN
        rw [until_past (by rw [toList_length]; omega)])
      go_wp2_with fail
      go_ret
      exact ⟨ret_int13 HR.out, rfl⟩
theorem ext_prefix (s t : ByteArray) (k : Nat) (h : k + t.size ≤ s.size) : ((s.extract k (k + t.size)).toList == t.toList) = t.data.toList.isPrefixOf (s.data.toList.drop k) := by
  rw [bytes_list, bytes_list, extract_list]
  have hl := toList_length t
  have hsl := toList_length s
  have ht : (s.data.toList.take (k + t.size)).drop k = (s.data.toList.drop k).take t.size := by rw [List.drop_take]; congr 1; omega
  cases hp : t.data.toList.isPrefixOf (s.data.toList.drop k) with
  | true =>
    obtain ⟨r, hr⟩ := List.isPrefixOf_iff_prefix.1 hp
    rw [ht, ← hr, ← hl, List.take_left]
    exact beq_self_eq_true _
  | false =>
    rw [beq_eq_false_iff_ne]
    intro e
    rw [ht] at e
    have : t.data.toList <+: s.data.toList.drop k := ⟨(s.data.toList.drop k).drop t.size, by rw [← e]; exact List.take_append_drop _ _⟩
    rw [List.isPrefixOf_iff_prefix.2 this] at hp
    cases hp
set_option maxHeartbeats 4000000 in
theorem index13_any (s : ByteArray) (a : Nat) (t : ByteArray) (w : World) (ha : a ≤ s.size) (hs : s.size ≤ 16777216) (ht : 1 ≤ t.size) (ht2 : t.size ≤ 100) :
    Calls Tryz.prog 156 #[.string s, .int .i64 a, .string t] w fun e w' => e = .returned (.int .i64 (idxZ t.data.toList s.data.toList a)) ∧ w = w' := by
  go_enter Tryz.func156, Tryz.ntmps156
  go_wp2_with fail
  go_loop [1] (fun av => ∃ k : Nat, k ≤ s.size ∧ av = .int .i64 k ∧ Hid (idxZ t.data.toList s.data.toList k = idxZ t.data.toList s.data.toList a)) (fun av => s.size - (intOf av).toNat)
  case atStart => exact ⟨a, ha, rfl, hide rfl⟩
  case round =>
    obtain ⟨k, hk, rfl, HU⟩ := hrel
    have t0 : wrap64 ((k : Int) + (t.size : Int)) = (k : Int) + t.size := by unfold wrap64; omega
    by_cases hlt : k + t.size ≤ s.size
    · have hks : k < s.size := by omega
      have hd := drop_cons s k hks
      have hpx := ext_prefix s t k hlt
      obtain ⟨P, hP⟩ : ∃ P, s.extract k (k + t.size) = P := ⟨_, rfl⟩
      rw [hP, hd] at hpx
      have t1 : decide ((k : Int) + t.size ≤ s.size) = true := decide_eq_true (by omega)
      have t2 : (k : Int) + t.size ≤ s.size := by omega
      have t3 : ((k : Int) + t.size).toNat = k + t.size := by omega
      cases hb : t.data.toList.isPrefixOf (s[k] :: s.data.toList.drop (k + 1)) with
      | true =>
        have HR : Hid ((k : Int) = idxZ t.data.toList s.data.toList a) := hide (by rw [← HU.out, idx_here hd hb])
        rw [hb] at hpx
        clear hb hd HU
        go_wp2_with fail
        go_ret
        exact ⟨ret_int13 HR.out, rfl⟩
      | false =>
        have HU2 : Hid (idxZ t.data.toList s.data.toList (k + 1) = idxZ t.data.toList s.data.toList a) := hide (by rw [← HU.out, idx_next hd hb])
        rw [hb] at hpx
        clear hb hd HU
        go_wp2_with fail
        go_round
        case rel => exact ⟨k + 1, by omega, by go_num, HU2⟩
        case measure => simp [intOf]; omega
    · have t1 : decide ((k : Int) + t.size ≤ s.size) = false := decide_eq_false (by omega)
      have HR : Hid (-1 = idxZ t.data.toList s.data.toList a) := hide (by
        rw [← HU.out, idx_short (by rw [toList_length, toList_length]; omega) (by rw [toList_length]; exact hk)])
      go_wp2_with fail
      go_ret
      exact ⟨ret_int13 HR.out, rfl⟩
end Go.Proofs.YtiejmkjpgjbodaaGreatDoor

namespace Go.Proofs.YtiejmkjpgjbodaaGreatDoor
open Go.RowKit
set_option linter.unusedVariables false
set_option linter.unusedSimpArgs false
set_option maxRecDepth 100000
def letterAt (l : List UInt8) (k : Nat) : Bool := match l.drop k with
  | c :: _ => letterB c
  | [] => false
set_option maxHeartbeats 4000000 in
theorem letterAt_any (s : ByteArray) (b k : Nat) (w : World) (hs : s.size ≤ 16777216) (hk : k ≤ s.size + 10) (h0 : w.cell? ⟨b, 0, none⟩ = some (.string s)) :
    Calls Tryz.prog 128 #[.pointer (some ⟨b, 0, none⟩), .int .i64 k] w fun e w' => e = .returned (.bool (letterAt s.data.toList k)) ∧ w = w' := by
  by_cases hlt : k < s.size
  · have hd := drop_cons s k hlt
    have hL := fun w2 => letter_any s[k] w2
    obtain ⟨c, hc⟩ : ∃ c, s[k] = c := ⟨_, rfl⟩
    have hcn : (s[k]'hlt).toNat = c.toNat := by rw [hc]
    rw [hc] at hd hL
    have hv : letterAt s.data.toList k = letterB c := by unfold letterAt; rw [hd]
    rw [hv]
    have HL := hide hL
    clear hd hc hL hv
    go_enter Tryz.func128, Tryz.ntmps128
    go_wp2_with (go_at_call 152; refine (HL.out _).mono ?_; rintro e w2 ⟨rfl, rfl⟩)
    go_ret
    exact ⟨rfl, rfl⟩
  · have hv : letterAt s.data.toList k = false := by
      unfold letterAt
      rw [List.drop_eq_nil_of_le (by rw [toList_length]; omega)]
    rw [hv]
    have t0 : decide ((k : Int) < s.size) = false := decide_eq_false (by omega)
    clear hv
    go_enter Tryz.func128, Tryz.ntmps128
    go_wp2_with fail
    go_ret
    exact ⟨rfl, rfl⟩
set_option maxHeartbeats 4000000 in
theorem hasAt_any (s t : ByteArray) (b k : Nat) (w : World) (hs : s.size ≤ 16777216) (hk : k ≤ s.size + 10) (ht : 1 ≤ t.size) (ht2 : t.size ≤ 100) (h0 : w.cell? ⟨b, 0, none⟩ = some (.string s)) :
    Calls Tryz.prog 129 #[.pointer (some ⟨b, 0, none⟩), .int .i64 k, .string t] w fun e w' => e = .returned (.bool (t.data.toList.isPrefixOf (s.data.toList.drop k))) ∧ w = w' := by
  have t0 : wrap64 ((k : Int) + (t.size : Int)) = (k : Int) + t.size := by unfold wrap64; omega
  by_cases hlt : k + t.size ≤ s.size
  · have hpx := ext_prefix s t k hlt
    obtain ⟨P, hP⟩ : ∃ P, s.extract k (k + t.size) = P := ⟨_, rfl⟩
    rw [hP] at hpx
    have t1 : decide ((k : Int) + t.size ≤ s.size) = true := decide_eq_true (by omega)
    have t2 : (k : Int) + t.size ≤ s.size := by omega
    have t3 : ((k : Int) + t.size).toNat = k + t.size := by omega
    obtain ⟨B, hB⟩ : ∃ B, B = t.data.toList.isPrefixOf (s.data.toList.drop k) := ⟨_, rfl⟩
    rw [← hB] at hpx ⊢
    clear hB
    go_enter Tryz.func129, Tryz.ntmps129
    go_wp2_with fail
    go_ret
    exact ⟨rfl, rfl⟩
  · have hv : t.data.toList.isPrefixOf (s.data.toList.drop k) = false := by
      cases hp : t.data.toList.isPrefixOf (s.data.toList.drop k) with
      | false => rfl
      | true =>
        have h1 := (List.isPrefixOf_iff_prefix.1 hp).length_le
        rw [List.length_drop, toList_length, toList_length] at h1
        omega
    rw [hv]
    have t1 : decide ((k : Int) + t.size ≤ s.size) = false := decide_eq_false (by omega)
    clear hv
    go_enter Tryz.func129, Tryz.ntmps129
    go_wp2_with fail
    go_ret
    exact ⟨rfl, rfl⟩
theorem pre2 {a b : UInt8} {r : List UInt8} : ([60, a] : List UInt8).isPrefixOf (60 :: b :: r) = (a == b) := by simp [List.isPrefixOf]
theorem pre1 {a : UInt8} : ([60, a] : List UInt8).isPrefixOf [60] = false := by simp [List.isPrefixOf]
set_option maxHeartbeats 4000000 in
theorem begins13_any (s : ByteArray) (b k : Nat) (w : World) (hs : s.size ≤ 16777216) (hlt : k < s.size) (h60 : s[k] = 60) (h0 : w.cell? ⟨b, 0, none⟩ = some (.string s)) :
    Calls Tryz.prog 88 #[.pointer (some ⟨b, 0, none⟩), .int .i64 k] w fun e w' => e = .returned (.int .i64 (beginsN (s.data.toList.drop (k + 1)) : Nat)) ∧ w = w' := by
  have hd := drop_cons s k hlt
  rw [h60] at hd
  have hla := toList_length s
  have HL1 := hide (fun w2 h => letterAt_any s b (k + 1) w2 (by omega) (by omega) h)
  have HL2 := hide (fun w2 h => letterAt_any s b (k + 2) w2 (by omega) (by omega) h)
  have HS := hide (fun w2 h => hasAt_any s ⟨#[60, 47]⟩ b k w2 (by omega) (by omega) (by decide) (by decide) h)
  have HE := hide (fun w2 h => hasAt_any s ⟨#[60, 33]⟩ b k w2 (by omega) (by omega) (by decide) (by decide) h)
  have HQ := hide (fun w2 h => hasAt_any s ⟨#[60, 63]⟩ b k w2 (by omega) (by omega) (by decide) (by decide) h)
  rw [show ((k + 1 : Nat) : Int) = (k : Int) + 1 by omega] at HL1
  rw [show ((k + 2 : Nat) : Int) = (k : Int) + 2 by omega] at HL2
  have hrl : (s.data.toList.drop (k + 1)).length = s.size - (k + 1) := by rw [List.length_drop, hla]
  have hk2 : (s.data.toList.drop (k + 1)).drop 1 = s.data.toList.drop (k + 2) := by rw [List.drop_drop]
  have hl1 : letterAt s.data.toList (k + 1) = (match s.data.toList.drop (k + 1) with | d :: _ => letterB d | [] => false) := rfl
  have hl2 : letterAt s.data.toList (k + 2) = (match s.data.toList.drop (k + 2) with | d :: _ => letterB d | [] => false) := rfl
  rw [hd] at HS HE HQ
  rw [hl1] at HL1
  rw [hl2, ← hk2] at HL2
  have p1 : (⟨#[60, 47]⟩ : ByteArray).data.toList = [60, 47] := rfl
  have p2 : (⟨#[60, 33]⟩ : ByteArray).data.toList = [60, 33] := rfl
  have p3 : (⟨#[60, 63]⟩ : ByteArray).data.toList = [60, 63] := rfl
  rw [p1] at HS
  rw [p2] at HE
  rw [p3] at HQ
  generalize s.data.toList.drop (k + 1) = r at HL1 HL2 HS HE HQ hrl
  clear hd hla hk2 hl1 hl2 p1 p2 p3 h60
  cases r with
  | nil =>
    rw [pre1] at HS HE HQ
    simp only at HL1
    clear HL2 hrl
    go_enter Tryz.func88, Tryz.ntmps88
    go_wp2_with fail
    refine (HL1.out _ h0).mono ?_
    rintro e w1 ⟨rfl, hw⟩
    subst hw
    go_wp2_with fail
    refine (HS.out _ h0).mono ?_
    rintro e w1 ⟨rfl, hw⟩
    subst hw
    go_wp2_with fail
    refine (HS.out _ h0).mono ?_
    rintro e w1 ⟨rfl, hw⟩
    subst hw
    go_wp2_with fail
    refine (HE.out _ h0).mono ?_
    rintro e w1 ⟨rfl, hw⟩
    subst hw
    go_wp2_with fail
    refine (HQ.out _ h0).mono ?_
    rintro e w1 ⟨rfl, hw⟩
    subst hw
    go_wp2_with fail
    go_ret
    exact ⟨rfl, rfl⟩
  | cons c q =>
    rw [pre2] at HS HE HQ
    rw [begins_cons]
    simp only [List.drop_succ_cons, List.drop_zero] at HL1 HL2
    cases hl : letterB c with
    | true =>
      rw [hl] at HL1
      rw [if_pos rfl]
      clear hl HL2 hrl HS HE HQ
      go_enter Tryz.func88, Tryz.ntmps88
      go_wp2_with fail
      refine (HL1.out _ h0).mono ?_
      rintro e w1 ⟨rfl, hw⟩
      subst hw
      go_wp2_with fail
      go_ret
      exact ⟨rfl, rfl⟩
    | false =>
      rw [hl] at HL1
      rw [if_neg (by decide)]
      clear hl
      by_cases h47 : c = 47
      · subst h47
        rw [if_pos rfl]
        rw [show ((47 : UInt8) == 47) = true from rfl] at HS
        rw [show ((33 : UInt8) == 47) = false from rfl] at HE
        rw [show ((63 : UInt8) == 47) = false from rfl] at HQ
        cases q with
        | nil =>
          simp only at HL2
          have hk2 : k + 2 = s.size := by simp only [List.length_cons, List.length_nil] at hrl; omega
          have t2 : decide ((k : Int) + 2 < s.size) = false := decide_eq_false (by omega)
          clear hk2 hrl
          go_enter Tryz.func88, Tryz.ntmps88
          go_wp2_with fail
          refine (HL1.out _ h0).mono ?_
          rintro e w1 ⟨rfl, hw⟩
          subst hw
          go_wp2_with fail
          refine (HS.out _ h0).mono ?_
          rintro e w1 ⟨rfl, hw⟩
          subst hw
          go_wp2_with fail
          refine (HL2.out _ h0).mono ?_
          rintro e w1 ⟨rfl, hw⟩
          subst hw
          go_wp2_with fail
          refine (HS.out _ h0).mono ?_
          rintro e w1 ⟨rfl, hw⟩
          subst hw
          go_wp2_with fail
          refine (HE.out _ h0).mono ?_
          rintro e w1 ⟨rfl, hw⟩
          subst hw
          go_wp2_with fail
          refine (HQ.out _ h0).mono ?_
          rintro e w1 ⟨rfl, hw⟩
          subst hw
          go_wp2_with fail
          go_ret
          exact ⟨rfl, rfl⟩
        | cons d e =>
          simp only at HL2 ⊢
          have t2 : decide ((k : Int) + 2 < s.size) = true := decide_eq_true (by simp only [List.length_cons] at hrl; omega)
          clear hrl
          cases hl2 : letterB d with
          | true =>
            rw [hl2] at HL2
            rw [if_pos rfl]
            clear hl2
            go_enter Tryz.func88, Tryz.ntmps88
            go_wp2_with fail
            refine (HL1.out _ h0).mono ?_
            rintro e w1 ⟨rfl, hw⟩
            subst hw
            go_wp2_with fail
            refine (HS.out _ h0).mono ?_
            rintro e w1 ⟨rfl, hw⟩
            subst hw
            go_wp2_with fail
            refine (HL2.out _ h0).mono ?_
            rintro e w1 ⟨rfl, hw⟩
            subst hw
            go_wp2_with fail
            go_ret
            exact ⟨rfl, rfl⟩
          | false =>
            rw [hl2] at HL2
            rw [if_neg (by decide)]
            clear hl2
            go_enter Tryz.func88, Tryz.ntmps88
            go_wp2_with fail
            refine (HL1.out _ h0).mono ?_
            rintro e w1 ⟨rfl, hw⟩
            subst hw
            go_wp2_with fail
            refine (HS.out _ h0).mono ?_
            rintro e w1 ⟨rfl, hw⟩
            subst hw
            go_wp2_with fail
            refine (HL2.out _ h0).mono ?_
            rintro e w1 ⟨rfl, hw⟩
            subst hw
            go_wp2_with fail
            refine (HS.out _ h0).mono ?_
            rintro e w1 ⟨rfl, hw⟩
            subst hw
            go_wp2_with fail
            go_ret
            exact ⟨rfl, rfl⟩
      · rw [if_neg h47]
        rw [beq_eq_false_iff_ne.2 (fun e => h47 e.symm)] at HS
        by_cases h33 : c = 33
        · subst h33
          rw [if_pos (.inl rfl)]
          rw [show ((33 : UInt8) == 33) = true from rfl] at HE
          clear h47 hrl HL2
          go_enter Tryz.func88, Tryz.ntmps88
          go_wp2_with fail
          refine (HL1.out _ h0).mono ?_
          rintro e w1 ⟨rfl, hw⟩
          subst hw
          go_wp2_with fail
          refine (HS.out _ h0).mono ?_
          rintro e w1 ⟨rfl, hw⟩
          subst hw
          go_wp2_with fail
          refine (HS.out _ h0).mono ?_
          rintro e w1 ⟨rfl, hw⟩
          subst hw
          go_wp2_with fail
          refine (HE.out _ h0).mono ?_
          rintro e w1 ⟨rfl, hw⟩
          subst hw
          go_wp2_with fail
          go_ret
          exact ⟨rfl, rfl⟩
        · rw [beq_eq_false_iff_ne.2 (fun e => h33 e.symm)] at HE
          by_cases h63 : c = 63
          · subst h63
            rw [if_pos (.inr rfl)]
            rw [show ((63 : UInt8) == 63) = true from rfl] at HQ
            clear h47 h33 hrl HL2
            go_enter Tryz.func88, Tryz.ntmps88
            go_wp2_with fail
            refine (HL1.out _ h0).mono ?_
            rintro e w1 ⟨rfl, hw⟩
            subst hw
            go_wp2_with fail
            refine (HS.out _ h0).mono ?_
            rintro e w1 ⟨rfl, hw⟩
            subst hw
            go_wp2_with fail
            refine (HS.out _ h0).mono ?_
            rintro e w1 ⟨rfl, hw⟩
            subst hw
            go_wp2_with fail
            refine (HE.out _ h0).mono ?_
            rintro e w1 ⟨rfl, hw⟩
            subst hw
            go_wp2_with fail
            refine (HQ.out _ h0).mono ?_
            rintro e w1 ⟨rfl, hw⟩
            subst hw
            go_wp2_with fail
            go_ret
            exact ⟨rfl, rfl⟩
          · rw [if_neg (fun h => h.elim h33 h63)]
            rw [beq_eq_false_iff_ne.2 (fun e => h63 e.symm)] at HQ
            clear h47 h33 h63 hrl HL2
            go_enter Tryz.func88, Tryz.ntmps88
            go_wp2_with fail
            refine (HL1.out _ h0).mono ?_
            rintro e w1 ⟨rfl, hw⟩
            subst hw
            go_wp2_with fail
            refine (HS.out _ h0).mono ?_
            rintro e w1 ⟨rfl, hw⟩
            subst hw
            go_wp2_with fail
            refine (HS.out _ h0).mono ?_
            rintro e w1 ⟨rfl, hw⟩
            subst hw
            go_wp2_with fail
            refine (HE.out _ h0).mono ?_
            rintro e w1 ⟨rfl, hw⟩
            subst hw
            go_wp2_with fail
            refine (HQ.out _ h0).mono ?_
            rintro e w1 ⟨rfl, hw⟩
            subst hw
            go_wp2_with fail
            go_ret
            exact ⟨rfl, rfl⟩
end Go.Proofs.YtiejmkjpgjbodaaGreatDoor

namespace Go.Proofs.YtiejmkjpgjbodaaGreatDoor
open Go.RowKit
set_option linter.unusedVariables false
set_option linter.unusedSimpArgs false
set_option maxRecDepth 100000
end Go.Proofs.YtiejmkjpgjbodaaGreatDoor

namespace Go.Proofs.YtiejmkjpgjbodaaGreatDoor
open Go.RowKit
set_option linter.unusedVariables false
set_option linter.unusedSimpArgs false
set_option maxRecDepth 100000
end Go.Proofs.YtiejmkjpgjbodaaGreatDoor

namespace Go.Proofs.YtiejmkjpgjbodaaGreatDoor
open Go.RowKit
set_option linter.unusedVariables false
set_option linter.unusedSimpArgs false
set_option maxRecDepth 100000
end Go.Proofs.YtiejmkjpgjbodaaGreatDoor

namespace Go.Proofs.YtiejmkjpgjbodaaGreatDoor
open Go.RowKit
set_option linter.unusedVariables false
set_option linter.unusedSimpArgs false
set_option maxRecDepth 100000
end Go.Proofs.YtiejmkjpgjbodaaGreatDoor

namespace Go.Proofs.YtiejmkjpgjbodaaGreatDoor
open Go.RowKit
set_option linter.unusedVariables false
set_option linter.unusedSimpArgs false
set_option maxRecDepth 100000
def nilS : Value := .slice none 0 0
def RepSt (w0 : World) (R G : Nat) (c34 c92 : Value) (l : Nat) (x y : ByteArray) (wr : World) : Prop :=
  Below w0.heap.size w0 wr ∧ w0.heap.size ≤ R ∧ w0.heap.size ≤ G ∧ R ≠ G ∧
  (∀ i : Nat, i < 256 → wr.cell? ⟨R, i, none⟩ = some (if i = 34 then c34 else if i = 92 then c92 else nilS)) ∧ (∀ i : Nat, wr.frozen? ⟨R, i, none⟩ = false) ∧
  wr.cell? ⟨R, 256, none⟩ = some (.slice (some ⟨G, 0, none⟩) l 2) ∧ wr.cell? ⟨G, 0, none⟩ = some (.string x) ∧ wr.cell? ⟨G, 1, none⟩ = some (.string y) ∧ (∀ i : Nat, wr.frozen? ⟨G, i, none⟩ = false)
def TwoAt (w : World) (g : Nat) (x y : Int) (B : Nat) : Prop := w.cell? ⟨g, 0, none⟩ = some (.int .u8 x) ∧ w.cell? ⟨g, 1, none⟩ = some (.int .u8 y) ∧ B + 2 ≤ g
theorem ne_off {g i j : Nat} (h : i ≠ j) : (⟨g, i, none⟩ : Addr) ≠ ⟨g, j, none⟩ := fun e => h (by injection e)
theorem ne_blk {g g' i j : Nat} (h : g ≠ g') : (⟨g, i, none⟩ : Addr) ≠ ⟨g', j, none⟩ := fun e => h (by injection e)
section
variable {w0 wr : World} {R G l : Nat} {c34 c92 : Value} {x y : ByteArray}
theorem RepSt.ltR (h : RepSt w0 R G c34 c92 l x y wr) : R < wr.heap.size := World.block_lt_of_cell? wr _ h.2.2.2.2.2.2.1
theorem RepSt.ltG (h : RepSt w0 R G c34 c92 l x y wr) : G < wr.heap.size := World.block_lt_of_cell? wr _ h.2.2.2.2.2.2.2.1
theorem RepSt.below (h : RepSt w0 R G c34 c92 l x y wr) : Below w0.heap.size w0 wr := h.1
theorem RepSt.kept {w' : World} (h : RepSt w0 R G c34 c92 l x y wr) (hb : Below wr.heap.size wr w') : RepSt w0 R G c34 c92 l x y w' := by
  have lR := h.ltR
  have lG := h.ltG
  obtain ⟨B0, hR, hG, hne, hc, hf, h256, hG0, hG1, hfG⟩ := h
  exact ⟨B0.trans (hb.mono (Nat.le_of_lt (Nat.lt_of_le_of_lt hR lR))), hR, hG, hne, fun i hi => (hb.cell (p := ⟨R, i, none⟩) lR).trans (hc i hi), fun i => (hb.frozen (p := ⟨R, i, none⟩) lR).trans (hf i),
    (hb.cell (p := ⟨R, 256, none⟩) lR).trans h256, (hb.cell (p := ⟨G, 0, none⟩) lG).trans hG0, (hb.cell (p := ⟨G, 1, none⟩) lG).trans hG1, fun i => (hb.frozen (p := ⟨G, i, none⟩) lG).trans (hfG i)⟩
theorem RepSt.alloc (h : RepSt w0 R G c34 c92 l x y wr) (o : Obj) : RepSt w0 R G c34 c92 l x y (wr.alloc o) := h.kept ((Below.refl _ wr).alloc (Nat.le_refl _) _)
end
theorem TwoAt.set {w : World} {g B : Nat} {x y : Int} (h : TwoAt w g x y B) {p : Addr} (hp : p.block ≠ g) (v : Value) : TwoAt (w.setCell p v) g x y B :=
  ⟨(World.cell?_setCell_other _ _ _ _ (fun e => hp (by rw [e]))).trans h.1, (World.cell?_setCell_other _ _ _ _ (fun e => hp (by rw [e]))).trans h.2.1, h.2.2⟩
theorem TwoAt.kept {w w' : World} {g B : Nat} {x y : Int} (h : TwoAt w g x y B) (hb : Below w.heap.size w w') : TwoAt w' g x y B := by
  have lg : g < w.heap.size := World.block_lt_of_cell? w _ h.1
  exact ⟨(hb.cell (p := ⟨g, 0, none⟩) lg).trans h.1, (hb.cell (p := ⟨g, 1, none⟩) lg).trans h.2.1, h.2.2⟩
theorem TwoAt.alloc {w : World} {g B : Nat} {x y : Int} (h : TwoAt w g x y B) (o : Obj) : TwoAt (w.alloc o) g x y B := h.kept ((Below.refl _ w).alloc (Nat.le_refl _) _)
def RepEnd (w0 : World) (R : Nat) (wr : World) : Prop :=
  ∃ G g1 c1 g2 c2 : Nat, RepSt w0 R G (.slice (some ⟨g1, 0, none⟩) 2 c1) (.slice (some ⟨g2, 0, none⟩) 2 c2) 2 ⟨#[92]⟩ ⟨#[34]⟩ wr ∧ TwoAt wr g1 92 34 w0.heap.size ∧ TwoAt wr g2 92 92 w0.heap.size
theorem RepEnd.below {w0 wr : World} {R : Nat} (h : RepEnd w0 R wr) : Below w0.heap.size w0 wr := by obtain ⟨_, _, _, _, _, h, _⟩ := h; exact h.below
theorem RepEnd.kept {w0 wr w' : World} {R : Nat} (h : RepEnd w0 R wr) (hb : Below wr.heap.size wr w') : RepEnd w0 R w' := by
  obtain ⟨G, g1, c1, g2, c2, h, t1, t2⟩ := h
  exact ⟨G, g1, c1, g2, c2, h.kept hb, t1.kept hb, t2.kept hb⟩
def RepAt (W : World) (b R : Nat) (wr : World) : Prop :=
  ∃ G g1 c1 g2 c2 : Nat, RepSt W R G (.slice (some ⟨g1, 0, none⟩) 2 c1) (.slice (some ⟨g2, 0, none⟩) 2 c2) 2 ⟨#[92]⟩ ⟨#[34]⟩ wr ∧ TwoAt wr g1 92 34 0 ∧ TwoAt wr g2 92 92 0 ∧ W.heap.size ≤ b ∧ b < R ∧ b < G ∧ b < g1 ∧ b < g2
theorem RepEnd.at {W w0 wr : World} {R b : Nat} (h : RepEnd w0 R wr) (hb : Below W.heap.size W w0) (hW : W.heap.size ≤ b) (hl : b < w0.heap.size) : RepAt W b R wr := by
  obtain ⟨G, g1, c1, g2, c2, ⟨B0, hR, hG, hr⟩, t1, t2⟩ := h
  exact ⟨G, g1, c1, g2, c2, ⟨hb.trans (B0.mono hb.size), Nat.le_trans hb.size hR, Nat.le_trans hb.size hG, hr⟩, ⟨t1.1, t1.2.1, by have := t1.2.2; omega⟩, ⟨t2.1, t2.2.1, by have := t2.2.2; omega⟩, hW, by omega, by omega, by have := t1.2.2; omega, by have := t2.2.2; omega⟩
theorem RepAt.below {W wr : World} {b R : Nat} (h : RepAt W b R wr) : Below W.heap.size W wr := by obtain ⟨_, _, _, _, _, h, _⟩ := h; exact h.below
theorem RepAt.set {W wr : World} {b R : Nat} (h : RepAt W b R wr) (i : Nat) (v : Value) : RepAt W b R (wr.setCell ⟨b, i, none⟩ v) := by
  obtain ⟨G, g1, c1, g2, c2, ⟨B0, hR, hG, hne, hc, hf, h256, hG0, hG1, hfG⟩, t1, t2, hW, l1, l2, l3, l4⟩ := h
  have nR : b ≠ R := Nat.ne_of_lt l1
  have nG : b ≠ G := Nat.ne_of_lt l2
  exact ⟨G, g1, c1, g2, c2, ⟨B0.setCell hW _, hR, hG, hne, fun j hj => (World.cell?_setCell_other _ _ _ _ (ne_blk nR)).trans (hc j hj), fun j => by rw [World.frozen?_setCell]; exact hf j,
    (World.cell?_setCell_other _ _ _ _ (ne_blk nR)).trans h256, (World.cell?_setCell_other _ _ _ _ (ne_blk nG)).trans hG0, (World.cell?_setCell_other _ _ _ _ (ne_blk nG)).trans hG1, fun j => by rw [World.frozen?_setCell]; exact hfG j⟩,
    t1.set (p := ⟨b, i, none⟩) (Nat.ne_of_lt l3) v, t2.set (p := ⟨b, i, none⟩) (Nat.ne_of_lt l4) v, hW, l1, l2, l3, l4⟩
theorem RepAt.kept {W wr w' : World} {b R : Nat} (h : RepAt W b R wr) (hb : Below wr.heap.size wr w') : RepAt W b R w' := by
  obtain ⟨G, g1, c1, g2, c2, h, t1, t2, hr⟩ := h
  exact ⟨G, g1, c1, g2, c2, h.kept hb, t1.kept hb, t2.kept hb, hr⟩
theorem RepAt.drew {W wr : World} {b R : Nat} (h : RepAt W b R wr) : RepAt W b R wr.drew := h.kept ((Below.refl _ wr).drew)
theorem RepSt.start (w : World) (t1 t2 : TypeId) : RepSt w (w.heap.size + 1) w.heap.size nilS nilS 0 ⟨#[]⟩ ⟨#[]⟩
    ((w.alloc (.cells #[.string ⟨#[]⟩, .string ⟨#[]⟩] t1)).alloc (.cells (List.replicate 256 nilS ++ [Value.slice (some ⟨w.heap.size, 0, none⟩) 0 2]).toArray t2)) := by
  have es : (w.alloc (.cells #[.string ⟨#[]⟩, .string ⟨#[]⟩] t1)).heap.size = w.heap.size + 1 := World.size_alloc ..
  have lG : w.heap.size < (w.alloc (.cells #[.string ⟨#[]⟩, .string ⟨#[]⟩] t1)).heap.size := by rw [es]; omega
  refine ⟨((Below.refl _ w).alloc (Nat.le_refl _) _).alloc (Nat.le_of_lt lG) _, Nat.le_succ _, Nat.le_refl _, by omega, fun i hi => ?_, fun i => ?_, ?_, ?_, ?_, fun i => ?_⟩
  · rw [World.cell?_alloc_at _ _ _ _ es.symm, List.getElem?_toArray, List.getElem?_append_left (by rw [List.length_replicate]; exact hi), List.getElem?_replicate, if_pos hi]
    simp
  · exact World.frozen?_alloc_at _ _ _ _ es.symm
  · rw [World.cell?_alloc_at _ _ _ _ es.symm, List.getElem?_toArray, List.getElem?_append_right (by rw [List.length_replicate]; exact Nat.le_refl _), List.length_replicate]
    rfl
  · rw [World.cell?_alloc_past _ _ _ lG, World.cell?_alloc_at _ _ _ _ rfl]; rfl
  · rw [World.cell?_alloc_past _ _ _ lG, World.cell?_alloc_at _ _ _ _ rfl]; rfl
  · rw [World.frozen?_alloc_past _ _ _ lG]; exact World.frozen?_alloc_at _ _ _ _ rfl
end Go.Proofs.YtiejmkjpgjbodaaGreatDoor

namespace Go.Proofs.YtiejmkjpgjbodaaGreatDoor
open Go.RowKit
set_option linter.unusedVariables false
set_option linter.unusedSimpArgs false
set_option maxRecDepth 100000
def keyE (k : Nat) : ByteArray := match k with | 0 => ⟨#[38]⟩ | 1 => ⟨#[60]⟩ | 2 => ⟨#[62]⟩ | _ => ⟨#[194, 160]⟩
def valE (k : Nat) : ByteArray := match k with | 0 => str ampT | 1 => str ltT | 2 => str gtT | _ => str nbT
def OldNewE (g : Nat) (w : World) : Prop := ∀ k, k < 4 → w.cell? ⟨g, 2 * k, none⟩ = some (.string (keyE k)) ∧ w.cell? ⟨g, 2 * k + 1, none⟩ = some (.string (valE k))
theorem OldNewE.kept {g : Nat} {w w' : World} (h : OldNewE g w) (hg : g < w.heap.size) (hb : Below w.heap.size w w') : OldNewE g w' := fun k hk => ⟨(hb.cell (p := ⟨g, 2 * k, none⟩) hg).trans (h k hk).1, (hb.cell (p := ⟨g, 2 * k + 1, none⟩) hg).trans (h k hk).2⟩
structure GSt (B : Nat) (W0 : World) (G : Nat) (sz : Nat) (f : Nat → Nat) (w : World) : Prop where
  below : Below B W0 w
  lo : B ≤ G
  c0 : w.cell? ⟨G, 0, none⟩ = some (.string ⟨#[]⟩)
  c1 : w.cell? ⟨G, 1, none⟩ = some (.int .i64 0)
  c2 : w.cell? ⟨G, 2, none⟩ = some (.string ⟨#[]⟩)
  c3 : w.cell? ⟨G, 3, none⟩ = some (.pointer none)
  c4 : w.cell? ⟨G, 4, none⟩ = some (.slice none 0 0)
  c5 : w.cell? ⟨G, 5, none⟩ = some (.int .i64 sz)
  map : ∀ j, j < 256 → w.cell? ⟨G, 6 + j, none⟩ = some (.int .u8 (f j))
  fr : ∀ i : Nat, w.frozen? ⟨G, i, none⟩ = false
theorem zero_gen : Tryz.zeroCells258.toList = [.string ⟨#[]⟩, .int .i64 0, .string ⟨#[]⟩, .pointer none, .slice none 0 0, .int .i64 0] ++ List.replicate 256 (.int .u8 0) := by kernel_rfl
theorem GSt.new (w : World) : GSt w.heap.size w w.heap.size 0 (fun _ => 0) (w.alloc (.cells Tryz.zeroCells258 258)) := by
  have key : ∀ i : Nat, (w.alloc (.cells Tryz.zeroCells258 258)).cell? ⟨w.heap.size, i, none⟩ = ([Value.string ⟨#[]⟩, .int .i64 0, .string ⟨#[]⟩, .pointer none, .slice none 0 0, .int .i64 0] ++ List.replicate 256 (.int .u8 0))[i]? := by
    intro i
    rw [World.cell?_alloc_at _ _ _ _ rfl, ← Array.getElem?_toList, zero_gen]
  refine ⟨(Below.refl _ w).alloc (Nat.le_refl _) _, Nat.le_refl _, key 0, key 1, key 2, key 3, key 4, key 5, fun j hj => ?_, fun i => World.frozen?_alloc_at _ _ _ _ rfl⟩
  rw [key, List.getElem?_append_right (by show 6 ≤ 6 + j; omega), List.getElem?_replicate]
  exact if_pos (by show 6 + j - 6 < 256; omega)
section
variable {B G sz : Nat} {W0 w w' : World} {f : Nat → Nat}
theorem GSt.lt (h : GSt B W0 G sz f w) : G < w.heap.size := World.block_lt_of_cell? w _ h.c0
theorem GSt.put (h : GSt B W0 G sz f w) (j v : Nat) (hj : j < 256) : GSt B W0 G sz (fun i => if i = j then v else f i) (w.setCell ⟨G, 6 + j, none⟩ (.int .u8 v)) := by
  have ne : ∀ i : Nat, i < 6 → (w.setCell ⟨G, 6 + j, none⟩ (.int .u8 v)).cell? ⟨G, i, none⟩ = w.cell? ⟨G, i, none⟩ := fun i hi => World.cell?_setCell_other _ _ _ _ (ne_off (by omega))
  refine ⟨h.below.setCell h.lo _, h.lo, (ne 0 (by omega)).trans h.c0, (ne 1 (by omega)).trans h.c1, (ne 2 (by omega)).trans h.c2, (ne 3 (by omega)).trans h.c3, (ne 4 (by omega)).trans h.c4, (ne 5 (by omega)).trans h.c5, fun i hi => ?_, fun i => by rw [World.frozen?_setCell]; exact h.fr i⟩
  by_cases e : i = j
  · subst e
    rw [if_pos rfl]
    exact World.cell?_setCell_same _ _ _ (h.map i hi)
  · rw [if_neg e]
    exact (World.cell?_setCell_other _ _ _ _ (ne_off (by omega))).trans (h.map i hi)
theorem GSt.count (h : GSt B W0 G sz f w) (s' : Nat) : GSt B W0 G s' f (w.setCell ⟨G, 5, none⟩ (.int .i64 s')) := by
  have ne : ∀ i : Nat, i ≠ 5 → (w.setCell ⟨G, 5, none⟩ (.int .i64 s')).cell? ⟨G, i, none⟩ = w.cell? ⟨G, i, none⟩ := fun i hi => World.cell?_setCell_other _ _ _ _ (ne_off (Ne.symm hi))
  exact ⟨h.below.setCell h.lo _, h.lo, (ne 0 (by omega)).trans h.c0, (ne 1 (by omega)).trans h.c1, (ne 2 (by omega)).trans h.c2, (ne 3 (by omega)).trans h.c3, (ne 4 (by omega)).trans h.c4, World.cell?_setCell_same _ _ _ h.c5, fun i hi => (ne _ (by omega)).trans (h.map i hi), fun i => by rw [World.frozen?_setCell]; exact h.fr i⟩
theorem GSt.drewN (h : GSt B W0 G sz f w) (n : Nat) : GSt B W0 G sz f (w.drewN n) := ⟨h.below.trans ⟨rfl, rfl, rfl, Nat.le_refl _, fun _ _ => rfl⟩, h.lo, h.c0, h.c1, h.c2, h.c3, h.c4, h.c5, h.map, h.fr⟩
theorem GSt.ext {g : Nat → Nat} (h : GSt B W0 G sz f w) (e : ∀ j, j < 256 → f j = g j) : GSt B W0 G sz g w := ⟨h.below, h.lo, h.c0, h.c1, h.c2, h.c3, h.c4, h.c5, fun j hj => by rw [h.map j hj, e j hj], h.fr⟩
theorem GSt.cell (h : GSt B W0 G sz f w) (c : UInt8) : w.cell? ⟨G, 6 + c.toNat, none⟩ = some (.int .u8 (f c.toNat)) := h.map _ (chr_lt c)
def mapL (f : Nat → Nat) : List Value := (List.range 256).map fun j => .int .u8 (f j)
theorem mapL_length (f : Nat → Nat) : (mapL f).length = 256 := by simp [mapL]
theorem GSt.range (h : GSt B W0 G sz f w) : w.rangeAt G 6 (mapL f) := by
  intro j v hv
  have hj : j < 256 := by
    have := (List.getElem?_eq_some_iff.1 hv).1
    rwa [mapL_length] at this
  rw [h.map j hj]
  simp [mapL, hj] at hv
  rw [hv]
end
end Go.Proofs.YtiejmkjpgjbodaaGreatDoor

namespace Go.Proofs.YtiejmkjpgjbodaaGreatDoor
open Go.RowKit
set_option linter.unusedVariables false
set_option linter.unusedSimpArgs false
set_option maxRecDepth 100000
structure Hung (T m n : Nat) (w w' : World) : Prop where
  size : w.heap.size < w'.heap.size
  mine : w.heap.size ≤ n ∧ n < w'.heap.size
  hit : w'.cell? ⟨T, m, none⟩ = some (.pointer (some ⟨n, 0, none⟩))
  tab : ∀ j : Nat, j ≠ m → w'.cell? ⟨T, j, none⟩ = w.cell? ⟨T, j, none⟩
  cell : ∀ b o : Nat, b ≠ T → b < w.heap.size → w'.cell? ⟨b, o, none⟩ = w.cell? ⟨b, o, none⟩
  fr : ∀ b o : Nat, b < w.heap.size → w'.frozen? ⟨b, o, none⟩ = w.frozen? ⟨b, o, none⟩
  below : ∀ B : Nat, B ≤ T → B ≤ w.heap.size → Below B w w'
theorem Hung.node {T m n b : Nat} {w w' : World} (h : Hung T m n w w') (hT : b ≠ T) (hb : b < w.heap.size) {val pre : ByteArray} {prio : Int} {nx : Option Addr} {tab : Value} (hn : Node w b val prio pre nx tab) : Node w' b val prio pre nx tab := by
  obtain ⟨a0, a1, a2, a3, a4⟩ := hn
  exact ⟨(h.cell b 0 hT hb).trans a0, (h.cell b 1 hT hb).trans a1, (h.cell b 2 hT hb).trans a2, (h.cell b 3 hT hb).trans a3, (h.cell b 4 hT hb).trans a4⟩
theorem z_set (w : World) (p : Addr) (x : Value) : (w.setCell p x).heap.size = w.heap.size := by simp [World.setCell]
structure TSt (B : Nat) (W0 : World) (G T k : Nat) (w : World) : Prop where
  below : Below B W0 w
  lo : B ≤ G ∧ B ≤ T ∧ G ≠ T ∧ G < w.heap.size ∧ T < w.heap.size ∧ B ≤ w.heap.size
  root : Node w G ⟨#[]⟩ 0 ⟨#[]⟩ none (.slice (some ⟨T, 0, none⟩) 5 5)
  size : w.cell? ⟨G, 5, none⟩ = some (.int .i64 5)
  map : ∀ c : UInt8, w.cell? ⟨G, 6 + c.toNat, none⟩ = some (.int .u8 (mapC c))
  fr : ∀ i : Nat, w.frozen? ⟨T, i, none⟩ = false
  t3 : w.cell? ⟨T, 3, none⟩ = some (.pointer none)
  old : ∀ j, j < 3 → (j < k → ∃ n : Nat, B ≤ n ∧ n < w.heap.size ∧ n ≠ T ∧ w.cell? ⟨T, j, none⟩ = some (.pointer (some ⟨n, 0, none⟩)) ∧ Node w n (valE j) (8 - 2 * j) ⟨#[]⟩ none (.slice none 0 0)) ∧ (k ≤ j → w.cell? ⟨T, j, none⟩ = some (.pointer none))
  t4 : (k ≤ 3 → w.cell? ⟨T, 4, none⟩ = some (.pointer none)) ∧ (3 < k → ∃ n4 n5 : Nat, B ≤ n4 ∧ B ≤ n5 ∧ n4 < w.heap.size ∧ n5 < w.heap.size ∧ w.cell? ⟨T, 4, none⟩ = some (.pointer (some ⟨n4, 0, none⟩)) ∧ Node w n4 ⟨#[]⟩ 0 ⟨#[160]⟩ (some ⟨n5, 0, none⟩) (.slice none 0 0) ∧ Node w n5 (str nbT) 2 ⟨#[]⟩ none (.slice none 0 0))
theorem TSt.one {B G T k : Nat} {W0 w w' : World} (h : TSt B W0 G T k w) (hk : k < 3) (hh : Hung T k w.heap.size w w') (hn : Node w' w.heap.size (valE k) (8 - 2 * k) ⟨#[]⟩ none (.slice none 0 0)) : TSt B W0 G T (k + 1) w' := by
  obtain ⟨l1, l2, l3, l4, l5, l6⟩ := h.lo
  refine ⟨h.below.trans (hh.below B l2 l6), ⟨l1, l2, l3, Nat.lt_trans l4 hh.size, Nat.lt_trans l5 hh.size, Nat.le_trans l6 (Nat.le_of_lt hh.size)⟩, hh.node l3 l4 h.root, (hh.cell G 5 l3 l4).trans h.size, fun c => (hh.cell G _ l3 l4).trans (h.map c), fun i => (hh.fr T i l5).trans (h.fr i), (hh.tab 3 (by omega)).trans h.t3, fun j hj => ⟨fun hjk => ?_, fun hjk => (hh.tab j (by omega)).trans ((h.old j hj).2 (by omega))⟩, fun hk3 => (hh.tab 4 (by omega)).trans (h.t4.1 (by omega)), fun hk3 => absurd hk3 (by omega)⟩
  by_cases e : j = k
  · subst e
    exact ⟨w.heap.size, l6, hh.mine.2, by omega, hh.hit, hn⟩
  · obtain ⟨n, n1, n2, n3, n4, n5⟩ := (h.old j hj).1 (by omega)
    exact ⟨n, n1, Nat.lt_trans n2 hh.size, n3, (hh.tab j e).trans n4, hh.node n3 n2 n5⟩
theorem TSt.last {B G T : Nat} {W0 w w' : World} (h : TSt B W0 G T 3 w) (hh : Hung T 4 w.heap.size w w') (h4 : Node w' w.heap.size ⟨#[]⟩ 0 ⟨#[160]⟩ (some ⟨w.heap.size + 1, 0, none⟩) (.slice none 0 0)) (h5 : Node w' (w.heap.size + 1) (str nbT) 2 ⟨#[]⟩ none (.slice none 0 0)) (hz : w.heap.size + 1 < w'.heap.size) : TSt B W0 G T 4 w' := by
  obtain ⟨l1, l2, l3, l4, l5, l6⟩ := h.lo
  refine ⟨h.below.trans (hh.below B l2 l6), ⟨l1, l2, l3, Nat.lt_trans l4 hh.size, Nat.lt_trans l5 hh.size, Nat.le_trans l6 (Nat.le_of_lt hh.size)⟩, hh.node l3 l4 h.root, (hh.cell G 5 l3 l4).trans h.size, fun c => (hh.cell G _ l3 l4).trans (h.map c), fun i => (hh.fr T i l5).trans (h.fr i), (hh.tab 3 (by omega)).trans h.t3, fun j hj => ⟨fun hjk => ?_, fun hjk => absurd hjk (by omega)⟩, fun hk3 => absurd hk3 (by omega), fun _ => ⟨w.heap.size, w.heap.size + 1, l6, Nat.le_succ_of_le l6, hh.mine.2, hz, hh.hit, h4, h5⟩⟩
  obtain ⟨n, n1, n2, n3, n4, n5⟩ := (h.old j hj).1 (by omega)
  exact ⟨n, n1, Nat.lt_trans n2 hh.size, n3, (hh.tab j (by omega)).trans n4, hh.node n3 n2 n5⟩
def TrieX (B G : Nat) (w : World) : Prop := ∃ T n0 n1 n2 n4 n5 : Nat, Trie w G T n0 n1 n2 n4 n5 ∧ (B ≤ G ∧ B ≤ T ∧ B ≤ n0 ∧ B ≤ n1 ∧ B ≤ n2 ∧ B ≤ n4 ∧ B ≤ n5) ∧ (G < w.heap.size ∧ T < w.heap.size ∧ n0 < w.heap.size ∧ n1 < w.heap.size ∧ n2 < w.heap.size ∧ n4 < w.heap.size ∧ n5 < w.heap.size)
theorem TrieX.set {B G b o : Nat} {w : World} (h : TrieX B G w) (hb : b < B) (x : Value) : TrieX B G (w.setCell ⟨b, o, none⟩ x) := by
  obtain ⟨T, n0, n1, n2, n4, n5, ht, ⟨l0, l1, l2, l3, l4, l5, l6⟩, hi⟩ := h
  have key : ∀ (c i : Nat), B ≤ c → (w.setCell ⟨b, o, none⟩ x).cell? ⟨c, i, none⟩ = w.cell? ⟨c, i, none⟩ := fun c i hc => World.cell?_setCell_other _ _ _ _ (ne_blk (by omega))
  have kn : ∀ {c val prio pre nx tab}, B ≤ c → Node w c val prio pre nx tab → Node (w.setCell ⟨b, o, none⟩ x) c val prio pre nx tab := by
    intro c val prio pre nx tab hc ⟨a0, a1, a2, a3, a4⟩
    exact ⟨(key _ _ hc).trans a0, (key _ _ hc).trans a1, (key _ _ hc).trans a2, (key _ _ hc).trans a3, (key _ _ hc).trans a4⟩
  refine ⟨T, n0, n1, n2, n4, n5, ⟨kn l0 ht.root, (key _ _ l0).trans ht.size, fun c => (key _ _ l0).trans (ht.map c), (key _ _ l1).trans ht.t0, (key _ _ l1).trans ht.t1, (key _ _ l1).trans ht.t2, (key _ _ l1).trans ht.t3, (key _ _ l1).trans ht.t4, kn l2 ht.k0, kn l3 ht.k1, kn l4 ht.k2, kn l5 ht.k4, kn l6 ht.k5⟩, ⟨l0, l1, l2, l3, l4, l5, l6⟩, ?_⟩
  rw [z_set]; exact hi
theorem TrieX.drew {B G : Nat} {w : World} (h : TrieX B G w) : TrieX B G w.drew := by
  obtain ⟨T, n0, n1, n2, n4, n5, ht, lo, hi⟩ := h
  exact ⟨T, n0, n1, n2, n4, n5, ⟨ht.1, ht.2, ht.3, ht.4, ht.5, ht.6, ht.7, ht.8, ht.9, ht.10, ht.11, ht.12, ht.13⟩, lo, hi⟩
end Go.Proofs.YtiejmkjpgjbodaaGreatDoor

namespace Go.Proofs.YtiejmkjpgjbodaaGreatDoor
open Go.RowKit
set_option linter.unusedVariables false
set_option linter.unusedSimpArgs false
set_option maxRecDepth 100000
end Go.Proofs.YtiejmkjpgjbodaaGreatDoor

namespace Go.Proofs.YtiejmkjpgjbodaaGreatDoor
open Go.RowKit
set_option linter.unusedVariables false
set_option linter.unusedSimpArgs false
set_option maxRecDepth 100000
end Go.Proofs.YtiejmkjpgjbodaaGreatDoor

namespace Go.Proofs.YtiejmkjpgjbodaaGreatDoor
open Go.RowKit
set_option linter.unusedVariables false
set_option linter.unusedSimpArgs false
set_option maxRecDepth 100000
end Go.Proofs.YtiejmkjpgjbodaaGreatDoor

namespace Go.Proofs.YtiejmkjpgjbodaaGreatDoor
open Go.RowKit
set_option linter.unusedVariables false
set_option linter.unusedSimpArgs false
set_option maxRecDepth 100000
end Go.Proofs.YtiejmkjpgjbodaaGreatDoor

namespace Go.Proofs.YtiejmkjpgjbodaaGreatDoor
open Go.RowKit
set_option linter.unusedVariables false
set_option linter.unusedSimpArgs false
set_option maxRecDepth 100000
def EnvX (w : World) : Prop := EnvE w ∧ ∃ m : Int, w.cell? ⟨0, 0, none⟩ = some (.int .i64 m)
theorem EnvX.kept {w w' : World} (h : EnvX w) (hb : Below w.heap.size w w') : EnvX w' := by
  obtain ⟨h1, m, h2⟩ := h
  exact ⟨h1.kept hb, m, (hb.cell (p := ⟨0, 0, none⟩) (World.block_lt_of_cell? _ _ h2)).trans h2⟩
end Go.Proofs.YtiejmkjpgjbodaaGreatDoor

namespace Go.Proofs.YtiejmkjpgjbodaaGreatDoor
open Go.RowKit
set_option linter.unusedVariables false
set_option linter.unusedSimpArgs false
set_option maxRecDepth 100000
def KB (w w' : World) : Prop := ∀ (m : Nat) cur e fr, w.heap[m]? = some (Obj.cells cur e fr) → e ≠ 78 → e ≠ 5 → w'.heap[m]? = some (Obj.cells cur e fr)
theorem KB.refl (w : World) : KB w w := fun _ _ _ _ h _ _ => h
theorem KB.trans {a b c : World} (h : KB a b) (k : KB b c) : KB a c := fun m cur e fr hm h1 h2 => k m cur e fr (h m cur e fr hm h1 h2) h1 h2
theorem KB.alloc (w : World) (o : Obj) : KB w (w.alloc o) := fun m cur e fr hm _ _ => (Below.heap_alloc w o m (Array.getElem?_eq_some_iff.1 hm).1).trans hm
theorem KB.below {w w' : World} (h : Below w.heap.size w w') : KB w w' := fun m cur e fr hm _ _ => (h.block m (Array.getElem?_eq_some_iff.1 hm).1).trans hm
theorem KB.set {w : World} {b : Nat} {cs : Array Value} {fr : Nat × Nat} (h : w.heap[b]? = some (.cells cs 78 fr)) (i : Nat) (v : Value) : KB w (w.setCell ⟨b, i, none⟩ v) := fun m cur e fr' hm h1 h2 => by
  have hne : m ≠ b := by
    rintro rfl
    rw [h] at hm
    injection hm with hm
    injection hm with _ hm
    exact h1 hm.symm
  exact (Below.heap_setCell w _ v m hne).trans hm
theorem KB.own {w w' : World} {B n : Nat} {v : Value} {xs : List Value} (h : w.ownsRow B 5 1 v n xs) (hg : w.grownBy w' v.ownBlock) : KB w w' := fun m cur e fr hm h1 h2 => by
  refine (hg.block m (Array.getElem?_eq_some_iff.1 hm).1 (fun he => ?_)).trans hm
  rcases h.2 with ⟨rfl, _⟩ | ⟨g, cap, cur', rfl, _, hh, _⟩
  · simp [Value.ownBlock] at he
  · have e1 : g = m := by simpa [Value.ownBlock] using he.symm
    subst e1
    rw [hh] at hm
    injection hm with hm
    injection hm with _ hm
    exact h2 hm.symm
theorem below_one' (w : World) (o : Obj) : Below w.heap.size w (w.alloc o) := (Below.refl _ _).alloc (Nat.le_refl _) _
end Go.Proofs.YtiejmkjpgjbodaaGreatDoor

namespace Go.Proofs.YtiejmkjpgjbodaaGreatDoor
open Go.RowKit
set_option linter.unusedVariables false
set_option linter.unusedSimpArgs false
set_option maxRecDepth 100000
theorem alloc_new_block (w : World) (o : Obj) : (w.alloc o).heap[w.heap.size]? = some o := by show (w.heap.push _)[w.heap.size]? = _; exact Array.getElem?_push_size
end Go.Proofs.YtiejmkjpgjbodaaGreatDoor

namespace Go.Proofs.YtiejmkjpgjbodaaGreatDoor
open Go.RowKit
set_option linter.unusedVariables false
set_option linter.unusedSimpArgs false
set_option maxRecDepth 100000
structure Sc (B b : Nat) (s : ByteArray) (o : Value) (vs : List TokV) (W0 w : World) : Prop where
  cell : w.heap[b]? = some (.cells #[.string s, o] 110 (0, 0))
  toks : TRow B o vs w
  base : B ≤ b
  below : Below B W0 w
  size : B ≤ w.heap.size
theorem Sc.c0 {B b : Nat} {s : ByteArray} {o : Value} {vs : List TokV} {W0 w : World} (h : Sc B b s o vs W0 w) : w.cell? ⟨b, 0, none⟩ = some (.string s) := by rw [Lib.cell_of_heap h.cell]; rfl
theorem Sc.c1 {B b : Nat} {s : ByteArray} {o : Value} {vs : List TokV} {W0 w : World} (h : Sc B b s o vs W0 w) : w.cell? ⟨b, 1, none⟩ = some o := by rw [Lib.cell_of_heap h.cell]; rfl
theorem Sc.kept {B b : Nat} {s : ByteArray} {o : Value} {vs : List TokV} {W0 w w' : World} (h : Sc B b s o vs W0 w) (hb : Below w.heap.size w w') : Sc B b s o vs W0 w' :=
  ⟨(hb.block b (lt_of_block h.cell)).trans h.cell, h.toks.kept hb, h.base, h.below.trans (hb.mono h.size), Nat.le_trans h.size hb.size⟩
theorem Sc.ne {B b : Nat} {s : ByteArray} {o : Value} {vs : List TokV} {W0 w : World} (h : Sc B b s o vs W0 w) : o.ownBlock ≠ some b := ownsRow_other h.toks.row (fun cur hc => by
  rw [h.cell] at hc
  injection hc with hc
  injection hc with _ hc
  exact absurd hc (by decide))
theorem storedS {B b : Nat} {s : ByteArray} {o : Value} {vs : List TokV} {t : TokL} {u : Value} {W0 w1 w2 : World} {ob : Obj} {A : Option Addr} {n c : Nat} (h : Sc B b s o vs W0 w1)
    (h2 : TRow B (.slice A n c) (vs ++ [(t, u)]) w2) (hg : (w1.alloc ob).grownBy w2 o.ownBlock) :
    w2.cell? ⟨b, 1, none⟩ = some o ∧ w2.frozen? ⟨b, 1, none⟩ = false ∧ Sc B b s (.slice A n c) (vs ++ [(t, u)]) W0 (w2.setCell ⟨b, 1, none⟩ (.slice A n c)) := by
  have hlt := lt_of_block h.cell
  have hra : (w1.alloc ob).heap[b]? = some (.cells #[.string s, o] 110 (0, 0)) := ((below_one' w1 ob).block b hlt).trans h.cell
  have hr2 : w2.heap[b]? = some (.cells #[.string s, o] 110 (0, 0)) := (hg.block b (lt_of_block hra) (fun e => h.ne e.symm)).trans hra
  have hza : B ≤ (w1.alloc ob).heap.size := by rw [World.size_alloc]; exact Nat.le_succ_of_le h.size
  have hW2 : Below B W0 w2 := (h.below.alloc h.size ob).grown hg hza (fun k hk => (h.toks.row.lt k hk).1)
  refine ⟨by rw [Lib.cell_of_heap hr2]; rfl, Lib.frozen_of_heap hr2 1, heap_put (j := 1) _ hr2, ?_, h.base, hW2.setCell (p := ⟨b, 1, none⟩) h.base _, ?_⟩
  · refine h2.turned (row := some b) ⟨rfl, rfl, rfl, by simp [World.setCell], fun k _ hk => Below.heap_setCell _ _ _ k (fun e => hk (by rw [e]))⟩ (fun r e cur => ?_)
    obtain rfl := Option.some.inj e
    rw [hr2]
    refine ⟨fun hc => ?_, fun hc => ?_⟩ <;> (injection hc with hc; injection hc with _ hc; exact absurd hc (by decide))
  · have := hg.size
    simp [World.setCell]
    omega
theorem addC_last {P : List TokL} {u : TokL} {t : List UInt8} (ht : t ≠ []) (h : P.getLast? = some u) : addC P t = if u.kind = 1 then P.dropLast ++ [{ u with text := u.text ++ t }] else P ++ [charsT t] := by
  unfold addC
  rw [if_neg ht, h]
theorem addC_none {t : List UInt8} (ht : t ≠ []) : addC [] t = [charsT t] := by
  unfold addC
  rw [if_neg ht]; rfl
def ScP (B b : Nat) (s : ByteArray) (P : List TokL) (N : Nat) (W0 w' : World) : Prop := ∃ o' vs', Sc B b s o' vs' W0 w' ∧ vs'.map Prod.fst = P ∧ vs'.length ≤ N
set_option maxHeartbeats 4000000 in
theorem chars_empty (B b : Nat) (s : ByteArray) (o : Value) (vs : List TokV) (t : ByteArray) (W0 w : World) (h : Sc B b s o vs W0 w) (ht : t.data.toList = []) :
    Calls Tryz.prog 91 #[.pointer (some ⟨b, 0, none⟩), .string t] w fun e w' => e = .returned (.tuple #[]) ∧ ScP B b s (vs.map Prod.fst) vs.length W0 w' := by
  have H := hide h
  have t1 : t.toList = [] := by rw [bytes_list, ht]
  have t0 : t.toList.isEmpty = true := by rw [t1]; rfl
  clear h ht
  go_enter Tryz.func91, Tryz.ntmps91
  go_wp2_with fail
  refine bodyPost_ret (v := .tuple #[]) (by simp [results, Tryz.f91, go_sem]) rfl ?_
  exact ⟨rfl, o, vs, H.out, rfl, Nat.le_refl _⟩
set_option maxHeartbeats 8000000 in
theorem chars_append (B b : Nat) (s : ByteArray) (o : Value) (vs : List TokV) (t : ByteArray) (W0 w : World) (h : Sc B b s o vs W0 w) (hn : vs.length ≤ 16777216) (ht : t.data.toList ≠ [])
    (hk : ∀ p, vs.getLast? = some p → p.1.kind ≠ 1) :
    Calls Tryz.prog 91 #[.pointer (some ⟨b, 0, none⟩), .string t] w fun e w' => e = .returned (.tuple #[]) ∧ ScP B b s (vs.map Prod.fst ++ [charsT t.data.toList]) (vs.length + 1) W0 w' := by
  have H := hide h
  have HN := hide hn
  have HTS : Hid (str t.data.toList = t) := hide (str_of t)
  have t0 : t.toList.isEmpty = false := by
    rw [bytes_list]
    cases hh : t.data.toList with
    | nil => exact absurd hh ht
    | cons _ _ => rfl
  obtain ⟨A, c, rfl⟩ := h.toks.slice_len
  have d1 := h.c1
  obtain ⟨n, hnn⟩ : ∃ n, vs.length = n := ⟨_, rfl⟩
  have hcase : n = 0 ∨ ∃ (a : Addr) (K : Int), A = some a ∧ 0 < n ∧ (K == 1) = false ∧ w.cell? (a.add ((n - 1) * 4)) = some (.int .i64 K) := by
    rcases Nat.eq_zero_or_pos n with h0 | h0
    · exact .inl h0
    · refine .inr ?_
      have hl : (vs.getLast?).isSome = true := by rw [List.getLast?_isSome]; intro e; rw [e] at hnn; simp at hnn; omega
      obtain ⟨p, hp⟩ := Option.isSome_iff_exists.1 hl
      have hp2 : vs[n - 1]? = some p := by rw [← hnn, ← List.getLast?_eq_getElem?]; exact hp
      have hp3 : ((vs.map Prod.fst).map gOf)[n - 1]? = some (gOf p.1) := by rw [List.getElem?_map, List.getElem?_map, hp2]; rfl
      obtain ⟨a, _, _, ha, b1, _⟩ := h.toks.in.at (n - 1) _ hp3
      exact ⟨a, (p.1.kind : Int), ha, h0, by rw [beq_eq_false_iff_ne]; have := hk p hp; omega, b1⟩
  rw [hnn] at H d1
  have HNN := hide hnn
  have hn2 : n ≤ 16777216 := by rw [← hnn]; exact hn
  clear h hn ht hk hnn
  rcases hcase with rfl | ⟨a, K, rfl, hn0, hK, hc⟩
  all_goals
    first
      | have tn0 : decide ((0 : Int) < n) = true := decide_eq_true (by omega)
        have tn1 : decide (0 < n) = true := decide_eq_true hn0
        have tnw : wrap64 ((n : Int) - 1) = ((n - 1 : Nat) : Int) := by unfold wrap64; omega
        have tnm : (n : Int) - 1 = ((n - 1 : Nat) : Int) := by omega
        have tnl : n - 1 < n := by omega
        clear hn0
      | skip
    go_enter Tryz.func91, Tryz.ntmps91
    go_wp2_with (at_builtin; go_must (refine wpList_toks rfl _ _ rfl B _ vs rfl (charsT t.data.toList) (.slice none 0 0) (H.out.toks.alloc _) (World.ownsRow_nil _ B _ 2) (by rw [World.size_alloc]; exact Nat.le_succ_of_le H.out.size) ⟨w.heap.size, 0, none⟩ rfl (tok_row _ _ _ _ _).1 (tok_row _ _ _ _ _).2.1 (tok_row _ _ _ _ _).2.2.1 ((tok_row _ _ _ _ _).2.2.2.trans (by show some (Value.string t) = some (Value.string (str t.data.toList)); rw [HTS.out])) (by have := HN.out; omega) ?_; intro v2 w2 ht2 hg2; obtain ⟨A2, n2, c2, rfl⟩ : ∃ A n c, v2 = .slice A n c := ⟨_, _, _, ht2.slice_len.choose_spec.choose_spec⟩; obtain ⟨x1, x2, x3⟩ := storedS H.out ht2 hg2; have HS := hide x3; clear ht2 hg2 x3))
    go_end0
    exact ⟨rfl, _, _, HS.out, by rw [List.map_append]; rfl, by rw [List.length_append]; exact Nat.le_refl _⟩
end Go.Proofs.YtiejmkjpgjbodaaGreatDoor

namespace Go.Proofs.YtiejmkjpgjbodaaGreatDoor
open Go.RowKit
set_option linter.unusedVariables false
set_option linter.unusedSimpArgs false
set_option maxRecDepth 100000
theorem tokVals_set (ys : List TokV) (q : TokL) (u : Value) (x : List UInt8) : (tokVals (ys ++ [(q, u)])).set (ys.length * 4 + 3) (.string (str x)) = tokVals (ys ++ [({ q with text := x }, u)]) := by
  rw [tokVals_append, tokVals_append, List.set_append_right _ _ (by rw [tokVals_length]; omega), tokVals_length]
  congr 1
  rw [show ys.length * 4 + 3 - ys.length * 4 = 3 by omega]
  rfl
theorem Sc.setText {B b g c : Nat} {s : ByteArray} {ys : List TokV} {q : TokL} {u : Value} {W0 w : World} (h : Sc B b s (.slice (some ⟨g, 0, none⟩) (ys.length + 1) c) (ys ++ [(q, u)]) W0 w) (x : List UInt8) :
    Sc B b s (.slice (some ⟨g, 0, none⟩) (ys.length + 1) c) (ys ++ [({ q with text := x }, u)]) W0 (w.setCell ⟨g, ys.length * 4 + 3, none⟩ (.string (str x))) := by
  have hl : (ys ++ [(q, u)]).length = ys.length + 1 := by rw [List.length_append]; rfl
  have hrow := h.toks.row
  rw [hl] at hrow
  obtain ⟨r1, r2⟩ := hrow.stored (ys.length * 4 + 3) (.string (str x))
  rw [tokVals_set] at r1
  have hgb : B ≤ g := (hrow.lt g rfl).1
  have hne : b ≠ g := fun e => h.ne (by rw [e]; rfl)
  refine ⟨?_, ⟨by rw [List.length_append]; exact r1, fun p hp => ?_⟩, h.base, h.below.setCell (p := ⟨g, ys.length * 4 + 3, none⟩) hgb _, by simpa [World.setCell] using h.size⟩
  · rw [r2.block b (lt_of_block h.cell) (fun e => hne (Option.some.inj e))]
    exact h.cell
  · have hk : ∀ {y : Value} {k : Nat} {xs : List Value}, w.ownsRow B 43 2 y k xs → (w.setCell ⟨g, ys.length * 4 + 3, none⟩ (.string (str x))).ownsRow B 43 2 y k xs := fun hy => hy.kept r2 (ownsRow_diff (by decide) hy h.toks.row)
    rcases List.mem_append.1 hp with hp | hp
    · exact hk (h.toks.each p (List.mem_append.2 (.inl hp)))
    · obtain rfl := List.mem_singleton.1 hp
      exact hk (h.toks.each (q, u) (List.mem_append.2 (.inr (List.mem_singleton.2 rfl))))
set_option maxHeartbeats 8000000 in
theorem chars_last (B b : Nat) (s : ByteArray) (o : Value) (ys : List TokV) (q : TokL) (u : Value) (t : ByteArray) (W0 w : World) (h : Sc B b s o (ys ++ [(q, u)]) W0 w) (hn : ys.length ≤ 16777216) (ht : t.data.toList ≠ []) (hq : q.kind = 1) (hz : q.text.length + t.size ≤ 1099511627776) :
    Calls Tryz.prog 91 #[.pointer (some ⟨b, 0, none⟩), .string t] w fun e w' => e = .returned (.tuple #[]) ∧ ScP B b s ((ys ++ [({ q with text := q.text ++ t.data.toList }, u)]).map Prod.fst) (ys.length + 1) W0 w' := by
  have t0 : t.toList.isEmpty = false := by
    rw [bytes_list]
    cases hh : t.data.toList with
    | nil => exact absurd hh ht
    | cons _ _ => rfl
  have hl : (ys ++ [(q, u)]).length = ys.length + 1 := by rw [List.length_append]; rfl
  obtain ⟨g, c, rfl⟩ : ∃ g c, o = .slice (some ⟨g, 0, none⟩) (ys.length + 1) c := by
    rcases h.toks.row.2 with ⟨_, h0⟩ | ⟨g, cap, cur, hv, _⟩
    · rw [hl] at h0; cases h0
    · exact ⟨g, cap, by rw [hv, hl]⟩
  have hrow := h.toks.row
  rw [hl] at hrow
  have hfr := hrow.frozenAt (ys.length * 4 + 3)
  obtain ⟨c1, c2, c3, c4⟩ := tokVals_at (l := ys ++ [(q, u)]) (j := ys.length) (p := (q, u)) (by simp)
  have e1 := h.toks.row.cells (g := g) rfl _ _ c1
  have e4 := h.toks.row.cells (g := g) rfl _ _ c4
  rw [Addr.add_lit] at e1 e4
  rw [Nat.zero_add] at e1 e4
  obtain ⟨Y, hY⟩ : ∃ Y, Y = str q.text := ⟨_, rfl⟩
  have zY : Y.size = q.text.length := by rw [hY, str_size]
  have e4' : w.cell? ⟨g, ys.length * 4 + 3, none⟩ = some (.string Y) := by rw [hY]; exact e4
  have e1' : w.cell? ⟨g, ys.length * 4, none⟩ = some (.int .i64 1) := by rw [e1]; show some (Value.int .i64 (q.kind : Int)) = _; rw [hq]; rfl
  have d1 := h.c1
  have H := hide h
  have HV : Hid (str (q.text ++ t.data.toList) = Y ++ t) := hide (by rw [hY, str_append, str_of])
  have q1 : ¬ (9223372036854775807 < Y.size + t.size) := by omega
  have tn1 : wrap64 (((ys.length + 1 : Nat) : Int) - 1) = (ys.length : Int) := by unfold wrap64; omega
  have tn2 : ((ys.length + 1 : Nat) : Int) - 1 = (ys.length : Int) := by omega
  have tn3 : decide ((0 : Int) < ((ys.length + 1 : Nat) : Int)) = true := decide_eq_true (by omega)
  have tn4 : wrap64 ((ys.length : Int) + 1 - 1) = (ys.length : Int) := by unfold wrap64; omega
  have tn5 : (ys.length : Int) < (ys.length : Int) + 1 := by omega
  clear h ht hl hrow c1 c2 c3 c4 e1 e4 hY hq
  go_enter Tryz.func91, Tryz.ntmps91
  go_wp2_with fail
  go_region
  all_goals
    go_wp2_with fail
    go_end0
    have hs := H.out.setText (q.text ++ t.data.toList)
    rw [HV.out] at hs
    exact ⟨rfl, _, _, hs.kept ((Below.refl _ _).drew), rfl, by rw [List.length_append]; exact Nat.le_refl _⟩
theorem chars13_any (B b : Nat) (s : ByteArray) (o : Value) (vs : List TokV) (t : ByteArray) (W0 w : World) (h : Sc B b s o vs W0 w) (hn : vs.length ≤ 16777216) (hz : ∀ p, vs.getLast? = some p → p.1.kind = 1 → p.1.text.length + t.size ≤ 1099511627776) :
    Calls Tryz.prog 91 #[.pointer (some ⟨b, 0, none⟩), .string t] w fun e w' => e = .returned (.tuple #[]) ∧ ScP B b s (addC (vs.map Prod.fst) t.data.toList) (vs.length + 1) W0 w' := by
  by_cases ht : t.data.toList = []
  · refine (chars_empty B b s o vs t W0 w h ht).mono ?_
    rintro e w' ⟨he, o', vs', hs, hm, hl⟩
    exact ⟨he, o', vs', hs, by rw [hm]; unfold addC; rw [if_pos ht], Nat.le_succ_of_le hl⟩
  · cases hg : vs.getLast? with
    | none =>
      obtain rfl := List.getLast?_eq_none_iff.1 hg
      refine (chars_append B b s o [] t W0 w h hn ht (fun p hp => by simp at hp)).mono ?_
      rintro e w' ⟨he, o', vs', hs, hm, hl⟩
      exact ⟨he, o', vs', hs, by rw [hm, show ([] : List TokV).map Prod.fst = [] from rfl, addC_none ht]; rfl, hl⟩
    | some p =>
      have hgm : (vs.map Prod.fst).getLast? = some p.1 := by rw [List.getLast?_map, hg]; rfl
      by_cases hk : p.1.kind = 1
      · obtain ⟨ys, hys⟩ : ∃ ys, vs = ys ++ [p] := List.getLast?_eq_some_iff.1 hg
        subst hys
        obtain ⟨q, u⟩ := p
        have hl : (ys ++ [(q, u)]).length = ys.length + 1 := by rw [List.length_append]; rfl
        refine (chars_last B b s o ys q u t W0 w h (by omega) ht hk (hz (q, u) hg hk)).mono ?_
        rintro e w' ⟨he, o', vs', hs, hm, hl2⟩
        refine ⟨he, o', vs', hs, ?_, by omega⟩
        rw [hm, addC_last ht hgm, if_pos hk]
        simp
      · refine (chars_append B b s o vs t W0 w h hn ht (fun p' hp' => by rw [hg] at hp'; injection hp' with hp'; subst hp'; exact hk)).mono ?_
        rintro e w' ⟨he, o', vs', hs, hm, hl2⟩
        exact ⟨he, o', vs', hs, by rw [hm, addC_last ht hgm, if_neg hk], hl2⟩
end Go.Proofs.YtiejmkjpgjbodaaGreatDoor

