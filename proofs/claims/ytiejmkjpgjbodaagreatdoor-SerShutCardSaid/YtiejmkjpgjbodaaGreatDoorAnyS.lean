import Derived.Test.YtiejmkjpgjbodaaGreatDoorIdxR
import Derived.Test.YtiejmkjpgjbodaaGreatDoorBaseM
import Derived.Test.YtiejmkjpgjbodaaGreatDoorWordE
import Derived.Test.YtiejmkjpgjbodaaGreatDoorShelf
import Derived.Laws.Runes
import Derived.WalkMore
import Derived.Laws.RangeAny
import Derived.Shelf.Strings.IndexAnyAll
import Derived.Shelf.Strings.SlTrimAscii
namespace Go.Proofs.YtiejmkjpgjbodaaGreatDoor
open Go.RowKit
set_option linter.unusedVariables false
set_option linter.unusedSimpArgs false
theorem noAny_step {s : ByteArray} {cs : List UInt8} {pos n : Nat} (h : Lib.NoAny s.data.toList cs pos) (hn : ∀ j, pos ≤ j → j < pos + n → ∀ b, s.data.toList[j]? = some b → cs.contains b = false) : Lib.NoAny s.data.toList cs (pos + n) := by
  intro j b hj hb
  rcases Nat.lt_or_ge j pos with h1 | h1
  · exact h j b h1 hb
  · exact hn j h1 hj b hb
set_option maxRecDepth 100000 in
set_option maxHeartbeats 1000000 in
theorem indexAny_short (s cs : ByteArray) (w : World) (h2 : 2 ≤ cs.size) (hcs : cs.size ≤ 100) (h8 : s.size ≤ 8) (ha : cs.data.toList.all (fun c => decide (c.toNat < 128)) = true) :
    Calls Tryz.prog 197 #[.string s, .string cs] w fun e w' => e = .returned (.int .i64 (Lib.indexAny s.data.toList cs.data.toList)) ∧ Below w.heap.size w w' := by
  have hemp : cs.toList.isEmpty = false := by
    rw [Lib.toList_data]
    cases h : cs.data.toList with
    | nil => have := Lib.size_eq cs; rw [h, List.length_nil] at this; omega
    | cons _ _ => rfl
  have hn1 : ((cs.size : Int) == 1) = false := beq_eq_false_iff_ne.2 (by omega)
  have h8z : decide ((8 : Int) < (s.size : Int)) = false := decide_eq_false (by omega)
  have HA := hide ha
  clear ha
  go_enter Tryz.func197, Tryz.ntmps197
  go_wp2_with fail
  refine (Tryz.strings_shouldUseASCIISet _ _).mono ?_
  rintro e w1 ⟨rfl, hw1⟩
  subst hw1
  rw [h8z]
  go_wp2_with fail
  have hit : (w1.iter s 0).heap[w1.heap.size]? = some (Obj.stringIter s 0) := heap_alloc_new w1 _
  have hb0 : Below w1.heap.size w1 (w1.iter s 0) := iter_below w1 s 0
  have hg0 : w1.heap.size < (w1.iter s 0).heap.size := (Array.getElem?_eq_some_iff.1 hit).1
  go_loopw [9, 10] (fun _ _ wr => ∃ pos : Nat, pos ≤ s.size ∧ wr.heap[w1.heap.size]? = some (Obj.stringIter s pos) ∧ Below w1.heap.size w1 wr ∧ Lib.NoAny s.data.toList cs.data.toList pos) (fun _ _ wr => s.size - wr.iterPos w1.heap.size)
  case atStart => exact ⟨0, Nat.zero_le _, hit, hb0, Lib.NoAny.zero _ _⟩
  case round =>
    obtain ⟨pos, hpos, hk, hb, hno⟩ := hrel
    have HK := hide hk
    have HB := hide hb
    have HN := hide hno
    have hsz : w1.heap.size < wr.heap.size := (Array.getElem?_eq_some_iff.1 hk).1
    clear hk hb hno
    by_cases hlt : pos < s.size
    · have hnx := fun ty => Lib.run_next_any_at (P := Tryz.prog) wr w1.heap.size s pos ty HK.out hlt
      have hle := decode_le s pos
      rcases decode_high_or s pos hlt with ⟨hx, hdec⟩ | ⟨hx, hd1, hd2⟩
      · rw [hdec] at hnx
        have hg : s.data.toList[pos]? = some s[pos] := by rw [List.getElem?_eq_getElem (by rw [toList_length]; exact hlt)]; rfl
        have hcon := Lib.contains_iff_indexByte cs.data.toList s[pos]
        have hback : ((s[pos].toNat : Int)).toNat.toUInt8 = s[pos] := by simp
        have HI := hide (Lib.iterAt_heap wr w1.heap.size s pos (pos + 1) HK.out)
        have HB1 := hide (Lib.below_iterAt HB.out (Nat.le_refl _) s (pos + 1))
        have HG := hide hg
        clear hdec hg
        cases hin : cs.data.toList.contains s[pos]
        · rw [hin] at hcon
          have hlt2 : ¬ ((0 : Int) ≤ Lib.indexByte cs.data.toList s[pos]) := of_decide_eq_false hcon.symm
          have HIN := hide hin
          clear hcon hin
          go_wp2_with fail
          refine (Tryz.strings_IndexRune_ascii _ _ _ (by omega) (by omega)).mono ?_
          rintro e w2 ⟨rfl, hw2⟩
          subst hw2
          rw [hback]
          go_wp2_with fail
          go_roundw
          case rel => exact ⟨pos + 1, by omega, HI.out, HB1.out, HN.out.succ HG.out HIN.out⟩
          case measure =>
            rw [show World.iterPos (World.iterAt wr w1.heap.size s (pos + 1)) w1.heap.size = pos + 1 by unfold World.iterPos; rw [HI.out], show World.iterPos wr w1.heap.size = pos by unfold World.iterPos; rw [HK.out]]
            omega
        · rw [hin] at hcon
          have hge : (0 : Int) ≤ Lib.indexByte cs.data.toList s[pos] := of_decide_eq_true hcon.symm
          have HIN := hide hin
          clear hcon hin
          go_wp2_with fail
          refine (Tryz.strings_IndexRune_ascii _ _ _ (by omega) (by omega)).mono ?_
          rintro e w2 ⟨rfl, hw2⟩
          subst hw2
          rw [hback]
          go_wp2_with fail
          go_ret
          exact ⟨ret_int (by rw [Lib.indexAny_hit HN.out HG.out HIN.out]), HB1.out⟩
      · have hsp := decode_span s pos hlt hx
        have hle2 := decode_end s pos hlt
        generalize Utf8.decode s pos = dl at hnx hd1 hd2 hle hsp hle2
        obtain ⟨r, n⟩ := dl
        simp only at hnx hd1 hd2 hle hsp hle2
        have HI := hide (Lib.iterAt_heap wr w1.heap.size s pos (pos + n) HK.out)
        have HB1 := hide (Lib.below_iterAt HB.out (Nat.le_refl _) s (pos + n))
        have HN2 := hide (noAny_step HN.out fun j h1 h2 b hb => not_contains_high HA.out (hsp j h1 h2 b hb))
        clear hsp
        go_wp2_with fail
        refine (indexRune_high cs (r : Int) _ (by omega) HA.out (by omega) (by omega)).mono ?_
        rintro e w2 ⟨rfl, hb2⟩
        have HI2 := hide ((hb2.block _ (by rw [Lib.iterAt_size]; exact hsz)).trans HI.out)
        have HB2 := hide (HB1.out.trans (hb2.mono (by rw [Lib.iterAt_size]; exact HB.out.size)))
        clear hb2
        go_wp2_with fail
        go_roundw
        case rel => exact ⟨pos + n, by omega, HI2.out, HB2.out, HN2.out⟩
        case measure =>
          have e1 : World.iterPos w2 w1.heap.size = pos + n := by unfold World.iterPos; rw [HI2.out]
          have e2 : World.iterPos wr w1.heap.size = pos := by unfold World.iterPos; rw [HK.out]
          rw [e1, e2]; omega
    · have hnx := fun ty => Lib.run_next_end_at (P := Tryz.prog) wr w1.heap.size s pos ty HK.out hlt
      go_wp2
      go_ret
      exact ⟨ret_int (by rw [Lib.indexAny_none (by rw [← Lib.size_eq]; exact fun j b hj => HN.out j b (by omega))]), HB.out⟩
theorem indexAny_any (s cs : ByteArray) (w : World) (h2 : 2 ≤ cs.size) (hcs : cs.size ≤ 100) (hs : s.size ≤ 16777216) (ha : cs.data.toList.all (fun c => decide (c.toNat < 128)) = true) :
    Calls Tryz.prog 197 #[.string s, .string cs] w fun e w' => e = .returned (.int .i64 (Lib.indexAny s.data.toList cs.data.toList)) ∧ Below w.heap.size w w' := by
  by_cases h8 : s.size ≤ 8
  · exact indexAny_short s cs w h2 hcs h8 ha
  · exact (Tryz.strings_IndexAny_long (zero_of_info (n := 256) (by kernel_rfl)).1 s cs w h2 (by omega) (by omega) (by omega) (ascii_of_all ha)).mono fun e w' ⟨he, hw⟩ => ⟨he, by rw [hw]; exact ((Below.refl _ _).alloc (Nat.le_refl _) _).alloc (by simp) _⟩
end Go.Proofs.YtiejmkjpgjbodaaGreatDoor
