/- WALK of (*strings.Builder).WriteRune. No statement is proved here. -/
import Derived.Test.YtmojckphfbcibaaGreatDoorBuilder
import Derived.Test.YtmojckphfbcibaaGreatDoorBaseN
namespace Go.Proofs.YtmojckphfbcibaaGreatDoor
open Go.RowKit
set_option linter.unusedVariables false
set_option linter.unusedSimpArgs false
set_option maxRecDepth 100000
set_option maxHeartbeats 2000000 in
theorem writeRune_any (B b : Nat) (l : List UInt8) (r : Int) (h0 : 0 ≤ r) (h1r : r ≤ 1114111) (W0 w : World) (h : Bld B b l W0 w) (hlen : l.length + 4 ≤ 140737488355328) :
    Calls Tryz.prog 44 #[.pointer (some ⟨b, 0, none⟩), .int .i32 r] w fun e w' => (∃ n, e = .returned (.tuple #[.int .i64 n, .nilIface])) ∧ Bld B b (l ++ runeL r) W0 w' := by
  obtain ⟨h, hbel, hBw⟩ := h
  have HBL := hide hbel
  clear hbel
  go_enter Tryz.func44, Tryz.ntmps44
  go_wp2_with fail
  refine (copyCheck_any B b (cellsOf l) _ h).mono ?_
  rintro e w1 ⟨rfl, h1, hb1⟩
  obtain ⟨hB, v, hbk, hown, hne⟩ := h1
  have c1 : w1.cell? ⟨b, 1, none⟩ = some v := by rw [Lib.cell_of_heap hbk]; rfl
  have hlt : b < w1.heap.size := lt_of_block hbk
  have hl1 : (cellsOf l).length = l.length := cellsOf_length l
  rw [hl1] at hown
  obtain ⟨A, cp, rfl⟩ : ∃ A cp, v = .slice A l.length cp := by
    rcases hown.2 with ⟨hv, hz⟩ | ⟨g, cap, cur, hv, _⟩
    · rw [hz]; exact ⟨_, _, hv⟩
    · exact ⟨_, _, hv⟩
  have HBK := hide hbk
  have HOWN := hide hown
  have HNE := hide hne
  have HB1 := hide hb1
  have hsz1 := hb1.size
  have HAR := hide (Tryz.utf8_AppendRune_plain B (.slice A l.length cp) l.length (cellsOf l) r (by omega) (by omega) w1 hown (by omega) (by omega))
  clear hbk hown hne hb1 h hl1
  go_wp2_with (go_at_call 70; refine HAR.out.mono ?_; rintro e w2 ⟨v', rfl, ho, o, hg⟩
               have e1 : Lib.runeCells r = cellsOf (runeL r) := (Lib.byteCells_encodeRune r).symm
               have e2 : (Lib.runeCells r).length = (runeL r).length := by rw [e1, cellsOf_length]
               rw [e2, e1] at ho
               obtain ⟨ao, cap, rfl⟩ : ∃ ao cap, v' = .slice ao (l.length + (runeL r).length) cap := by
                 rcases ho.2 with ⟨hv, hz⟩ | ⟨g, cap, cur, hv, _⟩
                 · rw [hz]; exact ⟨_, _, hv⟩
                 · exact ⟨_, _, hv⟩
               have hb2 : w2.heap[b]? = some (.cells #[.pointer (some ⟨b, 0, none⟩), .slice A l.length cp] 40 (0, 0)) := by
                 rw [hg.block b (Nat.lt_of_lt_of_le hlt ((Below.refl 0 w1).alloc (Nat.zero_le _) o).size) (fun e => HNE.out e.symm), Below.heap_alloc w1 o b hlt]
                 exact HBK.out
               have d1 : w2.cell? ⟨b, 1, none⟩ = some (.slice A l.length cp) := by rw [Lib.cell_of_heap hb2]; rfl
               have f1 : w2.frozen? ⟨b, 1, none⟩ = false := Lib.frozen_of_heap hb2 1
               obtain ⟨w3, hw3⟩ : ∃ w3, w3 = w2.setCell ⟨b, 1, none⟩ (.slice ao (l.length + (runeL r).length) cap) := ⟨_, rfl⟩
               have g1 : (w2.setCell ⟨b, 1, none⟩ (.slice ao (l.length + (runeL r).length) cap)).cell? ⟨b, 1, none⟩ = some (.slice ao (l.length + (runeL r).length) cap) := World.cell?_setCell_same _ _ _ d1
               have HO2 := hide ho
               have HG2 : Hid (Below B w w2) := hide ((HB1.out.alloc (by omega) o).grown hg (Nat.le_trans (by omega) ((Below.refl 0 w1).alloc (Nat.zero_le _) o).size) (fun k hk => (HOWN.out.lt k hk).1))
               have HB2 := hide hb2
               clear ho hg hb2 e1 e2 hw3)
  go_ret2
  refine ⟨⟨_, rfl⟩, .inr ?_, (HBL.out.trans HG2.out).setCell (p := ⟨b, 1, none⟩) hB _, ?_⟩
  · refine Lib.BuilderAt.put (T := 40) (e := 5) hB HB2.out (bs' := cellsOf (l ++ runeL r)) ?_ (by decide)
    have ho := HO2.out
    have e1 : cellsOf (l ++ runeL r) = cellsOf l ++ cellsOf (runeL r) := by rw [cellsOf, List.map_append]; rfl
    rw [e1, List.length_append, cellsOf_length, cellsOf_length]
    exact ho
  · have := HG2.out.size
    simp [World.setCell]
    omega
end Go.Proofs.YtmojckphfbcibaaGreatDoor
