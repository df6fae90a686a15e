/- WALK of the reference of layer 6: Cut. No statement is proved here. -/
import Derived.Test.YtdeaofnhdbhknaaRef06N
import Derived.Test.YtdeaofnhdbhknaaLineP
import Derived.Test.YtdeaofnhdbhknaaBaseM
namespace Go.Proofs.Ytdeaofnhdbhknaa
open Go.RowKit
set_option linter.unusedVariables false
set_option linter.unusedSimpArgs false
set_option maxRecDepth 100000

/-- the place behind the line that begins at a -/
def behindA (s : List UInt8) (a : Nat) : Nat := s.length - (afterC 10 (s.drop a)).length
theorem behind_at {s : List UInt8} {a : Nat} (h : a < s.length) : a < behindA s a ∧ behindA s a ≤ s.length ∧ s.drop (behindA s a) = afterC 10 (s.drop a) := by
  have hne : s.drop a ≠ [] := by intro e; have := congrArg List.length e; rw [List.length_drop, List.length_nil] at this; omega
  have h1 := afterC_lt 10 hne
  rw [List.length_drop] at h1
  refine ⟨by unfold behindA; omega, by unfold behindA; omega, ?_⟩
  obtain ⟨t, ht⟩ : afterC 10 (s.drop a) <:+ s.drop a := by unfold afterC; exact (List.drop_suffix 1 _).trans (List.dropWhile_suffix _)
  have e : s = (s.take a ++ t) ++ afterC 10 (s.drop a) := by rw [List.append_assoc, ht, List.take_append_drop]
  have hl := congrArg List.length e
  rw [List.length_append] at hl
  unfold behindA
  have e2 : s.length - (afterC 10 (s.drop a)).length = (s.take a ++ t).length := by omega
  rw [e2]
  exact (congrArg (List.drop (s.take a ++ t).length) e).trans List.drop_left
theorem cutL_drop {s : ByteArray} {a : Nat} (h : a < s.size) : cutL (s.data.toList.drop a) = lineL (s.data.toList.drop a) :: cutL (s.data.toList.drop (behindA s.data.toList a)) := by
  have h' : a < s.data.toList.length := by rw [toList_length]; exact h
  have hne : s.data.toList.drop a ≠ [] := by intro e; have := congrArg List.length e; rw [List.length_drop, List.length_nil] at this; omega
  rw [cutL_cons hne, (behind_at h').2.2]
set_option maxHeartbeats 2000000 in
theorem cut06_any (s : ByteArray) (w : World) (hs : s.size ≤ 4194304) :
    Calls Try.prog 18 #[.string s] w fun e w' => ∃ v, e = .returned v ∧ SBuf w.heap.size v ((cutL s.data.toList).map str) w w' := by
  have hsm : s.size ≤ 70368744177664 := by omega
  go_enter Try.func18, Try.ntmps18
  go_wp2_with fail
  go_loopw [3, 4] (fun o i wr => ∃ (a : Nat) (L : List (List UInt8)), a ≤ s.size ∧ i = .int .i64 a ∧ L.length ≤ a ∧ Hid (SBuf w.heap.size o (L.map str) w wr) ∧ Hid (L ++ cutL (s.data.toList.drop a) = cutL s.data.toList)) (fun _ i _ => s.size - (intOf i).toNat)
  case atStart => exact ⟨0, [], Nat.zero_le _, rfl, Nat.le_refl _, hide (SBuf.nil (Below.refl _ _) (Nat.le_refl _)), hide rfl⟩
  case round =>
    obtain ⟨a, L, ha, rfl, hLa, HB, HG⟩ := hrel
    by_cases hlt : a < s.size
    · have hat := behind_at (s := s.data.toList) (a := a) (by rw [toList_length]; exact hlt)
      rw [toList_length] at hat
      have HAT := hide hat
      obtain ⟨b, hb⟩ : ∃ b, b = behindA s.data.toList a := ⟨_, rfl⟩
      rw [← hb] at HAT
      obtain ⟨LN, hLN⟩ : ∃ LN, LN = str (lineL (s.data.toList.drop a)) := ⟨_, rfl⟩
      obtain ⟨ed, hed⟩ : ∃ ed, ed = hasC 10 (s.data.toList.drop a) := ⟨_, rfl⟩
      have HV : Hid (nextV s.size (s.data.toList.drop a) = .tuple #[.int .i64 (b : Int), .string LN, .bool ed]) := hide (by
        unfold nextV; rw [hLN, hed, hb]; unfold behindA; rw [toList_length])
      have HN : Hid ((L ++ [lineL (s.data.toList.drop a)]) ++ cutL (s.data.toList.drop b) = cutL s.data.toList) := hide (by
        rw [← HG.out, cutL_drop hlt, hb]; simp)
      have HLN := hide hLN
      have HLM : Hid ((L.map str).length + 1 ≤ 8796093022208) := hide (by rw [List.length_map]; omega)
      clear hat hb hLN hed
      go_wp2_with fail
      refine (next06_any s a _ hsm ha).mono ?_
      rintro e w2 ⟨rfl, hb2⟩
      rw [HV.out]
      have HB2 := hide (HB.out.kept hb2)
      clear hb2
      go_wp2_with (refine wpList_strs rfl _ _ rfl w.heap.size u3 (L.map str) rfl w w2 _ HB2.out rfl HLM.out ?_; intro v4 w4 hb4; have HB4 := hide hb4; clear hb4)
      go_roundw
      case rel => exact ⟨b, L ++ [lineL (s.data.toList.drop a)], HAT.out.2.1, rfl, by have := HAT.out.1; simp; omega, hide (by rw [List.map_append, List.map_cons, List.map_nil, ← HLN.out]; exact HB4.out), HN⟩
      case measure => have := HAT.out.1; have := HAT.out.2.1; simp [intOf]; omega
    · have HD : Hid (L = cutL s.data.toList) := hide (by
        have := HG.out
        rwa [List.drop_eq_nil_of_le (by rw [toList_length]; omega), cutL_nil, List.append_nil] at this)
      go_wp2_with fail
      go_ret
      exact ⟨_, rfl, by rw [← HD.out]; exact HB.out⟩
end Go.Proofs.Ytdeaofnhdbhknaa
