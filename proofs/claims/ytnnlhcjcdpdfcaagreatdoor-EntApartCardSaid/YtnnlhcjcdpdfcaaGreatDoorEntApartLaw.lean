/- WALK of the law EntApart. No statement is proved here. -/
import Derived.Test.YtnnlhcjcdpdfcaaGreatDoorEntL0
namespace Go.Proofs.YtnnlhcjcdpdfcaaGreatDoor
open Go.RowKit
set_option linter.unusedVariables false
set_option linter.unusedSimpArgs false
set_option maxRecDepth 100000
set_option maxHeartbeats 4000000 in
theorem law_EntApart (a : ByteArray) (haa : a.size ≤ maxLen) (b : ByteArray) (hbb : b.size ≤ maxLen) (w : World) (hE : EnvX w) :
    Calls Tryz.prog 13 #[.string a, .string b] w fun e w' => e = .returned (.bool true) ∧ Below w.heap.size w w' := by
  have HE := hide hE
  clear hE
  rcases Nat.lt_or_ge 5000 a.size with hqa | ha
  · have HDa : Hid (decide (a.size ≤ 5000) = false) := hide (decide_eq_false (by omega))
    clear hqa
    go_enter Tryz.func13, Tryz.ntmps13
    go_wp2_with fail
    refine (short12_any a _ haa).mono ?_
    rintro e wq ⟨rfl, rfl⟩
    rw [HDa.out]
    go_wp2_with fail
    refine (live12_any _ HE.out).mono ?_
    rintro e wl ⟨rfl, hbl⟩
    go_wp2_with fail
    go_ret
    exact ⟨rfl, hbl⟩
  have HDa : Hid (decide (a.size ≤ 5000) = true) := hide (decide_eq_true ha)
  rcases Nat.lt_or_ge 5000 b.size with hqb | hb
  · have HDb : Hid (decide (b.size ≤ 5000) = false) := hide (decide_eq_false (by omega))
    clear hqb
    go_enter Tryz.func13, Tryz.ntmps13
    go_wp2_with fail
    refine (short12_any a _ haa).mono ?_
    rintro e wq ⟨rfl, rfl⟩
    rw [HDa.out]
    go_wp2_with fail
    refine (short12_any b _ hbb).mono ?_
    rintro e wq ⟨rfl, rfl⟩
    rw [HDb.out]
    go_wp2_with fail
    refine (live12_any _ HE.out).mono ?_
    rintro e wl ⟨rfl, hbl⟩
    go_wp2_with fail
    go_ret
    exact ⟨rfl, hbl⟩
  have HDb : Hid (decide (b.size ≤ 5000) = true) := hide (decide_eq_true hb)
  obtain ⟨X, hX⟩ : ∃ X, X = str (escQ false a.data.toList) := ⟨_, rfl⟩
  have HX : Hid (str (escQ false a.data.toList) = X) := hide hX.symm
  obtain ⟨Y, hY⟩ : ∃ Y, Y = str (escQ true a.data.toList) := ⟨_, rfl⟩
  have HY : Hid (str (escQ true a.data.toList) = Y) := hide hY.symm
  obtain ⟨Z, hZ⟩ : ∃ Z, Z = str (escQ false b.data.toList) := ⟨_, rfl⟩
  have HZ : Hid (str (escQ false b.data.toList) = Z) := hide hZ.symm
  obtain ⟨U, hU⟩ : ∃ U, U = str (escQ true b.data.toList) := ⟨_, rfl⟩
  have HU : Hid (str (escQ true b.data.toList) = U) := hide hU.symm
  have ha2 : a.size ≤ 1048576 := by omega
  have ha3 : a.size ≤ 17592186044416 := by omega
  have hb2 : b.size ≤ 1048576 := by omega
  have hb3 : b.size ≤ 17592186044416 := by omega
  have inj : ∀ q, str (escQ q a.data.toList) = str (escQ q b.data.toList) → a = b := fun q h => by
    have := congrArg (fun x : ByteArray => x.data.toList) h
    simp only [str_toList] at this
    exact ext_list (esc_inj q this)
  have HXZ : Hid (X = Z → a = b) := hide (fun h => inj false (by rw [← hX, ← hZ]; exact h))
  have HYU : Hid (Y = U → a = b) := hide (fun h => inj true (by rw [← hY, ← hU]; exact h))
  have HXZ2 : Hid (a = b → X = Z ∧ Y = U) := hide (fun h => by rw [hX, hZ, hY, hU, h]; exact ⟨rfl, rfl⟩)
  clear hX hY hZ hU inj
  by_cases hab : a = b
  · have hz := HXZ2.out hab
    have b1 : (X.toList == Z.toList) = true := by rw [hz.1]; exact beq_self_eq_true _
    have b2 : (Y.toList == U.toList) = true := by rw [hz.2]; exact beq_self_eq_true _
    have b3 : (a.toList == b.toList) = true := by rw [hab]; exact beq_self_eq_true _
    clear hz hab
    go_enter Tryz.func13, Tryz.ntmps13
    go_wp2_with fail
    refine (short12_any a _ haa).mono ?_
    rintro e wq ⟨rfl, rfl⟩
    rw [HDa.out]
    go_wp2_with fail
    refine (short12_any b _ hbb).mono ?_
    rintro e wq ⟨rfl, rfl⟩
    rw [HDb.out]
    go_wp2_with fail
    refine (entText_any a _ ha3).mono ?_
    rintro e w1 ⟨rfl, hb1⟩
    have HE1 := hide (HE.out.kept hb1)
    have HB1 := hide (hb1)
    clear hb1
    rw [HX.out]
    go_wp2_with fail
    refine (entText_any b _ hb3).mono ?_
    rintro e w2 ⟨rfl, hb2⟩
    have HE2 := hide (HE1.out.kept hb2)
    have HB2 := hide (HB1.out.trans (hb2.mono HB1.out.size))
    clear hb2
    rw [HZ.out]
    go_wp2_with fail
    refine (entValue_any a _ ha2 HE2.out).mono ?_
    rintro e w3 ⟨rfl, hb3⟩
    have HE3 := hide (HE2.out.kept hb3)
    have HB3 := hide (HB2.out.trans (hb3.mono HB2.out.size))
    clear hb3
    rw [HY.out]
    go_wp2_with fail
    refine (entValue_any b _ hb2 HE3.out).mono ?_
    rintro e w4 ⟨rfl, hb4⟩
    have HE4 := hide (HE3.out.kept hb4)
    have HB4 := hide (HB3.out.trans (hb4.mono HB3.out.size))
    clear hb4
    rw [HU.out]
    go_wp2_with fail
    refine (live12_any _ HE4.out).mono ?_
    rintro e w5 ⟨rfl, hb5⟩
    have HE5 := hide (HE4.out.kept hb5)
    have HB5 := hide (HB4.out.trans (hb5.mono HB4.out.size))
    clear hb5
    go_wp2_with fail
    go_ret
    exact ⟨rfl, HB5.out⟩
  · have tl : ∀ x y : ByteArray, x.toList = y.toList → x = y := fun x y h => ext_list (by rw [← bytes_list, ← bytes_list]; exact h)
    have b1 : (X.toList == Z.toList) = false := beq_eq_false_iff_ne.2 (fun h => hab (HXZ.out (tl _ _ h)))
    have b2 : (Y.toList == U.toList) = false := beq_eq_false_iff_ne.2 (fun h => hab (HYU.out (tl _ _ h)))
    have b3 : (a.toList == b.toList) = false := beq_eq_false_iff_ne.2 (fun h => hab (tl _ _ h))
    clear hab tl
    go_enter Tryz.func13, Tryz.ntmps13
    go_wp2_with fail
    refine (short12_any a _ haa).mono ?_
    rintro e wq ⟨rfl, rfl⟩
    rw [HDa.out]
    go_wp2_with fail
    refine (short12_any b _ hbb).mono ?_
    rintro e wq ⟨rfl, rfl⟩
    rw [HDb.out]
    go_wp2_with fail
    refine (entText_any a _ ha3).mono ?_
    rintro e w1 ⟨rfl, hb1⟩
    have HE1 := hide (HE.out.kept hb1)
    have HB1 := hide (hb1)
    clear hb1
    rw [HX.out]
    go_wp2_with fail
    refine (entText_any b _ hb3).mono ?_
    rintro e w2 ⟨rfl, hb2⟩
    have HE2 := hide (HE1.out.kept hb2)
    have HB2 := hide (HB1.out.trans (hb2.mono HB1.out.size))
    clear hb2
    rw [HZ.out]
    go_wp2_with fail
    refine (entValue_any a _ ha2 HE2.out).mono ?_
    rintro e w3 ⟨rfl, hb3⟩
    have HE3 := hide (HE2.out.kept hb3)
    have HB3 := hide (HB2.out.trans (hb3.mono HB2.out.size))
    clear hb3
    rw [HY.out]
    go_wp2_with fail
    refine (entValue_any b _ hb2 HE3.out).mono ?_
    rintro e w4 ⟨rfl, hb4⟩
    have HE4 := hide (HE3.out.kept hb4)
    have HB4 := hide (HB3.out.trans (hb4.mono HB3.out.size))
    clear hb4
    rw [HU.out]
    go_wp2_with fail
    refine (live12_any _ HE4.out).mono ?_
    rintro e w5 ⟨rfl, hb5⟩
    have HE5 := hide (HE4.out.kept hb5)
    have HB5 := hide (HB4.out.trans (hb5.mono HB4.out.size))
    clear hb5
    go_wp2_with fail
    go_ret
    exact ⟨rfl, HB5.out⟩
end Go.Proofs.YtnnlhcjcdpdfcaaGreatDoor
