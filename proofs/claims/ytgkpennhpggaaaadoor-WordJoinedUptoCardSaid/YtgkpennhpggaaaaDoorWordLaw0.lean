/- WALKS of muslinlaw05's live and short. No statement is proved here. -/
import Derived.Test.YtgkpennhpggaaaaDoorWordC
namespace Go.Proofs.YtgkpennhpggaaaaDoor
open Go.RowKit
set_option linter.unusedVariables false
set_option linter.unusedSimpArgs false
set_option maxRecDepth 100000

/-- the world's listed tables, and a number of the library's own -/
def Env (w : World) : Prop := Tab w ∧ ∃ m : Int, w.cell? ⟨1, 0, none⟩ = some (.int .i64 m)
theorem cell_lt {w : World} {b : Nat} {v : Value} (h : w.cell? ⟨b, 0, none⟩ = some v) : b < w.heap.size := by
  rcases Nat.lt_or_ge b w.heap.size with h1 | h1
  · exact h1
  · unfold World.cell? at h
    simp [Array.getElem?_eq_none h1] at h
theorem Env.kept {w w' : World} (h : Env w) (hb : Below w.heap.size w w') : Env w' := by
  obtain ⟨hT, m, hm⟩ := h
  exact ⟨hT.below hb hT.lt, m, (hb.cell (p := ⟨1, 0, none⟩) (cell_lt hm)).trans hm⟩
theorem live5a : oneT [61, 63, 108, 97, 116, 105, 110, 49, 42, 101, 110, 63, 81, 63, 99, 97, 102, 61, 69, 57, 95, 120, 63, 61, 121] = [99, 97, 102, 195, 169, 32, 120] := by decide +kernel
theorem live5b : oneN [61, 63, 108, 97, 116, 105, 110, 49, 42, 101, 110, 63, 81, 63, 99, 97, 102, 61, 69, 57, 95, 120, 63, 61, 121] = 24 := by decide +kernel
theorem live5c : oneN [61, 63, 120, 63, 81, 63, 97, 63, 61] = 0 := by decide +kernel
theorem live5d : decW false [] [97, 32, 61, 63, 117, 116, 102, 45, 56, 63, 66, 63, 83, 71, 107, 61, 63, 61, 32, 10, 32, 61, 63, 97, 115, 99, 105, 105, 63, 113, 63, 33, 63, 61, 32, 98] = [97, 32, 72, 105, 33, 32, 98] := by decide +kernel
theorem live5e : encodeL [195, 169] = [61, 63, 117, 116, 102, 45, 56, 63, 66, 63, 119, 54, 107, 61, 63, 61] := by decide +kernel
theorem live5f : encodeL [97, 32, 98] = [97, 32, 98] := by decide +kernel

set_option maxHeartbeats 2000000 in
theorem live5_any (w : World) (hE : Env w) : Calls Tryd.prog 16 #[] w fun e w' => e = .returned (.bool true) ∧ Below w.heap.size w w' := by
  have HE := hide hE
  clear hE
  have H1 : Hid (oneV (⟨#[61, 63, 108, 97, 116, 105, 110, 49, 42, 101, 110, 63, 81, 63, 99, 97, 102, 61, 69, 57, 95, 120, 63, 61, 121]⟩ : ByteArray).data.toList = .tuple #[.string ⟨#[99, 97, 102, 195, 169, 32, 120]⟩, .int .i64 24]) := hide (by
    unfold oneV; rw [show oneT _ = _ from live5a, show oneN _ = _ from live5b]; rfl)
  have H2 : Hid (oneV (⟨#[61, 63, 120, 63, 81, 63, 97, 63, 61]⟩ : ByteArray).data.toList = .tuple #[.string ⟨#[]⟩, .int .i64 0]) := hide (oneV_none (one_zero live5c).1)
  have H3 : Hid (str (decW false [] (⟨#[97, 32, 61, 63, 117, 116, 102, 45, 56, 63, 66, 63, 83, 71, 107, 61, 63, 61, 32, 10, 32, 61, 63, 97, 115, 99, 105, 105, 63, 113, 63, 33, 63, 61, 32, 98]⟩ : ByteArray).data.toList) = ⟨#[97, 32, 72, 105, 33, 32, 98]⟩) := hide (congrArg str live5d)
  have H4 : Hid (str (encodeL (⟨#[195, 169]⟩ : ByteArray).data.toList) = ⟨#[61, 63, 117, 116, 102, 45, 56, 63, 66, 63, 119, 54, 107, 61, 63, 61]⟩) := hide (congrArg str live5e)
  have H5 : Hid (str (encodeL (⟨#[97, 32, 98]⟩ : ByteArray).data.toList) = ⟨#[97, 32, 98]⟩) := hide (congrArg str live5f)
  go_enter Tryd.func16, Tryd.ntmps16
  go_wp2_with fail
  refine (one_any _ _ (by decide) HE.out.1).mono ?_
  rintro e w1 ⟨rfl, hb1⟩
  rw [H1.out]
  go_wp2_with fail
  refine (one_any _ _ (by decide) (HE.out.kept hb1).1).mono ?_
  rintro e w2 ⟨rfl, hb2⟩
  rw [H2.out]
  have k2 := hb1.trans (hb2.mono hb1.size)
  go_wp2_with fail
  refine (wordDecode_any _ _ (by decide) (HE.out.kept k2).1).mono ?_
  rintro e w3 ⟨rfl, hb3⟩
  rw [H3.out]
  have k3 := k2.trans (hb3.mono k2.size)
  obtain ⟨_, m, hm⟩ := HE.out.kept k3
  have HM := hide hm
  clear hm
  go_wp2_with fail
  refine (wordEncode_any _ m _ (by decide) HM.out).mono ?_
  rintro e w4 ⟨rfl, hb4⟩
  rw [H4.out]
  have k4 := k3.trans (hb4.mono k3.size)
  obtain ⟨_, m2, hm2⟩ := HE.out.kept k4
  have HM2 := hide hm2
  clear hm2
  go_wp2_with fail
  refine (wordEncode_any _ m2 _ (by decide) HM2.out).mono ?_
  rintro e w5 ⟨rfl, hb5⟩
  rw [H5.out]
  go_wp2_with fail
  go_ret
  exact ⟨rfl, k4.trans (hb5.mono k4.size)⟩

theorem short5_any (s : ByteArray) (w : World) (hs : s.size ≤ maxLen) : Calls Tryd.prog 15 #[.string s] w fun e w' => e = .returned (.bool (decide (s.size ≤ 2000))) ∧ w = w' := by
  unfold maxLen at hs
  by_cases h : s.size ≤ 2000
  · have e : decide (s.size ≤ 2000) = true := decide_eq_true h
    rw [e]
    clear e
    go_enter Tryd.func15, Tryd.ntmps15
    go_wp2
    go_ret
    exact ⟨ret_bool (decide_eq_true (by omega)), rfl⟩
  · have e : decide (s.size ≤ 2000) = false := decide_eq_false h
    rw [e]
    clear e
    go_enter Tryd.func15, Tryd.ntmps15
    go_wp2
    go_ret
    exact ⟨ret_bool (decide_eq_false (by omega)), rfl⟩
end Go.Proofs.YtgkpennhpggaaaaDoor
