/- WALK of muslinlaw06's live. No statement is proved here. -/
import Derived.Test.YtcndklegoadjcaaDoorLinesC
import Derived.Test.YtcndklegoadjcaaDoorLinesH
import Derived.Test.YtcndklegoadjcaaDoorFieldsW
import Derived.Test.YtcndklegoadjcaaDoorRef06S
import Derived.Test.YtcndklegoadjcaaDoorFBuf
namespace Go.Proofs.YtcndklegoadjcaaDoor
open Go.RowKit
set_option linter.unusedVariables false
set_option linter.unusedSimpArgs false
set_option maxRecDepth 100000

theorem live6a : headL [65, 32, 58, 32, 98, 13, 10, 9, 99, 32, 10, 98, 97, 100, 10, 32, 100, 10, 88, 58, 10, 10, 98, 111, 100, 121, 10] = ([([65], [98, 9, 99]), ([88], [])], [98, 111, 100, 121, 10]) := by decide +kernel
theorem live6b : getL [([65], [98, 9, 99]), ([88], [])] [97] = some [98, 9, 99] := by decide +kernel
theorem live6c : writeO [([65], [98])] [99] = ([65, 58, 32, 98, 13, 10, 13, 10, 99], 0) := by decide +kernel
theorem live6d : writeO [([65], [98, 32])] [] = ([], 1) := by decide +kernel
theorem live6e : cutL [97, 13, 10, 10, 98] = [[97], [], [98]] := by decide +kernel
/-- a []api.Field of one, just made -/
theorem fields_one (w : World) (f : FieldL) (X Y : ByteArray) (hX : X = str f.1) (hY : Y = str f.2) : FieldsIn (w.alloc (.cells #[.string X, .string Y] 40)) (.slice (some ⟨w.heap.size, 0, none⟩) 1 1) [f] := by
  subst hX hY
  refine .inr ⟨⟨w.heap.size, 0, none⟩, 1, rfl, Nat.le_refl _, by decide, fun j hj => ?_⟩
  obtain rfl : j = 0 := by simp at hj; exact hj
  exact two_new w _ _ _
theorem SBuf.texts {B : Nat} {v : Value} {l : List ByteArray} {W0 w : World} (h : SBuf B v l W0 w) : TextsIn w v l := by
  have h1 := h.1
  rcases h.1.2 with ⟨rfl, h0⟩ | ⟨g, cap, cur, rfl, hg, hh, hc, hm, _⟩
  · exact .inl ⟨rfl, List.eq_nil_of_length_eq_zero h0⟩
  · refine .inr ⟨⟨g, 0, none⟩, cap, rfl, fun j x hj => ?_⟩
    exact h1.cells (g := g) rfl _ _ (by unfold strVals; rw [List.getElem?_map, hj]; rfl)
theorem texts_three (w : World) (x y z : ByteArray) : TextsIn (w.alloc (.cells #[.string x, .string y, .string z] 9)) (.slice (some ⟨w.heap.size, 0, none⟩) 3 3) [x, y, z] := by
  refine .inr ⟨⟨w.heap.size, 0, none⟩, 3, rfl, fun j u hj => ?_⟩
  rw [Addr.add_lit, World.cell?_alloc_at _ _ _ _ rfl]
  match j, hj with
  | 0, hj => simp at hj; subst hj; rfl
  | 1, hj => simp at hj; subst hj; rfl
  | 2, hj => simp at hj; subst hj; rfl
  | (j + 3), hj => simp at hj
set_option maxHeartbeats 4000000 in
theorem live6_any (w : World) : Calls Tryd.prog 10 #[] w fun e w' => e = .returned (.bool true) ∧ Below w.heap.size w w' := by
  have H1 := hide live6a
  have H2 : Hid (getV (getL [([65], [98, 9, 99]), ([88], [])] (⟨#[97]⟩ : ByteArray).data.toList) = .tuple #[.string ⟨#[98, 9, 99]⟩, .bool true]) := hide (by rw [show (⟨#[97]⟩ : ByteArray).data.toList = [97] from rfl, live6b]; rfl)
  have H3 : Hid (writeV (writeO [([65], [98])] (⟨#[99]⟩ : ByteArray).data.toList) = .tuple #[.string ⟨#[65, 58, 32, 98, 13, 10, 13, 10, 99]⟩, .int .i64 0]) := hide (by rw [show (⟨#[99]⟩ : ByteArray).data.toList = [99] from rfl, live6c]; rfl)
  have H4 : Hid (writeV (writeO [([65], [98, 32])] (⟨#[]⟩ : ByteArray).data.toList) = .tuple #[.string ⟨#[]⟩, .int .i64 1]) := hide (by rw [show (⟨#[]⟩ : ByteArray).data.toList = [] from rfl, live6d]; rfl)
  have H5 : Hid ((cutL (⟨#[97, 13, 10, 10, 98]⟩ : ByteArray).data.toList).map str = [⟨#[97]⟩, ⟨#[]⟩, ⟨#[98]⟩]) := hide (by rw [show (⟨#[97, 13, 10, 10, 98]⟩ : ByteArray).data.toList = [97, 13, 10, 10, 98] from rfl, live6e]; rfl)
  go_enter Tryd.func10, Tryd.ntmps10
  go_wp2_with fail
  refine (head_any _ (by decide) _).mono ?_
  rintro e w1 ⟨v1, rfl, hf1⟩
  rw [show (⟨#[65, 32, 58, 32, 98, 13, 10, 9, 99, 32, 10, 98, 97, 100, 10, 32, 100, 10, 88, 58, 10, 10, 98, 111, 100, 121, 10]⟩ : ByteArray).data.toList = [65, 32, 58, 32, 98, 13, 10, 9, 99, 32, 10, 98, 97, 100, 10, 32, 100, 10, 88, 58, 10, 10, 98, 111, 100, 121, 10] from rfl, H1.out] at hf1 ⊢
  rw [show str ((([([65], [98, 9, 99]), ([88], [])], [98, 111, 100, 121, 10]) : List FieldL × List UInt8)).2 = ⟨#[98, 111, 100, 121, 10]⟩ from rfl]
  obtain ⟨A, c, rfl⟩ := hf1.slice_len
  have k1 := hf1.below
  have HF1 := hide hf1.in
  have K1 := hide k1
  clear hf1 k1
  go_wp2_with fail
  refine (get_any _ _ _ _ HF1.out (by decide) (by decide) (by decide)).mono ?_
  rintro e w2 ⟨rfl, hb2⟩
  rw [H2.out]
  have K2 := hide (K1.out.trans (hb2.mono K1.out.size))
  clear hb2
  go_wp2_with fail
  refine (write_any _ [([65], [98])] _ _ (fields_one w2 _ _ _ rfl rfl) (by decide) (by decide) (by decide)).mono ?_
  rintro e w3 ⟨rfl, hb3⟩
  rw [H3.out]
  have K3 := hide ((K2.out.alloc K2.out.size _).trans (hb3.mono (K2.out.alloc K2.out.size _).size))
  clear hb3
  go_wp2_with fail
  refine (write_any _ [([65], [98, 32])] _ _ (fields_one w3 _ _ _ rfl rfl) (by decide) (by decide) (by decide)).mono ?_
  rintro e w4 ⟨rfl, hb4⟩
  rw [H4.out]
  have K4 := hide ((K3.out.alloc K3.out.size _).trans (hb4.mono (K3.out.alloc K3.out.size _).size))
  clear hb4
  go_wp2_with fail
  refine (cut_any06 _ (by decide) _).mono ?_
  rintro e w5 ⟨v5, rfl, hs5⟩
  rw [H5.out] at hs5
  obtain ⟨A5, c5, rfl⟩ := hs5.slice_len
  have K5 := hide (K4.out.trans (hs5.below.mono K4.out.size))
  have HT5 := hide hs5.texts
  clear hs5
  go_wp2_with fail
  refine (texts06_any _ _ _ _ _ (HT5.out.kept ((Below.refl _ _).alloc (Nat.le_refl _) _)) (texts_three w5 _ _ _) (by decide)).mono ?_
  rintro e w6 ⟨rfl, hb6⟩
  rw [show decide (([⟨#[97]⟩, ⟨#[]⟩, ⟨#[98]⟩] : List ByteArray) = [⟨#[97]⟩, ⟨#[]⟩, ⟨#[98]⟩]) = true from decide_eq_true rfl]
  have K6 := hide ((K5.out.alloc K5.out.size _).trans (hb6.mono (K5.out.alloc K5.out.size _).size))
  clear hb6
  go_wp2_with fail
  go_ret
  exact ⟨rfl, K6.out⟩
end Go.Proofs.YtcndklegoadjcaaDoor
