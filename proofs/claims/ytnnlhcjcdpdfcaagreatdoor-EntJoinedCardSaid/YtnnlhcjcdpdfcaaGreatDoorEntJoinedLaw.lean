/- WALK of the law EntJoined. No statement is proved here. -/
import Derived.Test.YtnnlhcjcdpdfcaaGreatDoorEntL0
namespace Go.Proofs.YtnnlhcjcdpdfcaaGreatDoor
open Go.RowKit
set_option linter.unusedVariables false
set_option linter.unusedSimpArgs false
set_option maxRecDepth 100000
set_option maxHeartbeats 4000000 in
theorem law_EntJoined (a : ByteArray) (haa : a.size ≤ maxLen) (b : ByteArray) (hbb : b.size ≤ maxLen) (w : World) (hE : EnvX w) :
    Calls Tryz.prog 14 #[.string a, .string b] w fun e w' => e = .returned (.bool true) ∧ Below w.heap.size w w' := by
  have HE := hide hE
  clear hE
  rcases Nat.lt_or_ge 5000 a.size with hqa | ha
  · have HDa : Hid (decide (a.size ≤ 5000) = false) := hide (decide_eq_false (by omega))
    clear hqa
    go_enter Tryz.func14, Tryz.ntmps14
    go_wp2_with fail
    refine (short12_any a _ haa).mono ?_
    rintro e wq ⟨rfl, rfl⟩
    rw [HDa.out]
    go_wp2_with fail
    refine (live12_any _ HE.out).mono ?_
    rintro e wl ⟨rfl, hbl⟩
    go_wp2_with fail
    go_ret
    exact ⟨rfl, hbl⟩
  have HDa : Hid (decide (a.size ≤ 5000) = true) := hide (decide_eq_true ha)
  rcases Nat.lt_or_ge 5000 b.size with hqb | hb
  · have HDb : Hid (decide (b.size ≤ 5000) = false) := hide (decide_eq_false (by omega))
    clear hqb
    go_enter Tryz.func14, Tryz.ntmps14
    go_wp2_with fail
    refine (short12_any a _ haa).mono ?_
    rintro e wq ⟨rfl, rfl⟩
    rw [HDa.out]
    go_wp2_with fail
    refine (short12_any b _ hbb).mono ?_
    rintro e wq ⟨rfl, rfl⟩
    rw [HDb.out]
    go_wp2_with fail
    refine (live12_any _ HE.out).mono ?_
    rintro e wl ⟨rfl, hbl⟩
    go_wp2_with fail
    go_ret
    exact ⟨rfl, hbl⟩
  have HDb : Hid (decide (b.size ≤ 5000) = true) := hide (decide_eq_true hb)
  by_cases hl : a.data.toList.getLast? = some 194
  · have hp : 0 < a.size := by
      rw [← toList_length]
      cases e : a.data.toList with
      | nil => rw [e] at hl; cases hl
      | cons x r => exact Nat.succ_pos _
    have hx : a[a.size - 1] = 194 := by
      have h1 := take_snoc a (a.size - 1) (by omega)
      rw [show a.size - 1 + 1 = a.size by omega, List.take_of_length_le (by rw [toList_length]; exact Nat.le_refl _)] at h1
      rw [h1, List.getLast?_append] at hl
      simpa using hl
    have t0 : ((a[a.size - 1].toNat : Int) == 194) = true := tT 194 hx (by omega)
    have p1 : (0 : Int) < a.size := by omega
    have p2 : decide ((0 : Int) < a.size) = true := decide_eq_true p1
    have p3 : IntKind.i64.wrap ((a.size : Int) - 1) = ((a.size - 1 : Nat) : Int) := by rw [IntWalk.i64_in _ (by unfold maxLen at haa; omega)]; omega
    have p4 : a.size - 1 < a.size := by omega
    clear hl hx
    go_enter Tryz.func14, Tryz.ntmps14
    go_wp2_with fail
    refine (short12_any a _ haa).mono ?_
    rintro e wq ⟨rfl, rfl⟩
    rw [HDa.out]
    go_wp2_with fail
    refine (short12_any b _ hbb).mono ?_
    rintro e wq ⟨rfl, rfl⟩
    rw [HDb.out]
    go_wp2_with fail
    refine (live12_any _ HE.out).mono ?_
    rintro e wl ⟨rfl, hbl⟩
    go_wp2_with fail
    go_ret
    exact ⟨rfl, hbl⟩
  have hcase : a.size = 0 ∨ ∃ hp : 0 < a.size, a[a.size - 1] ≠ 194 := by
    by_cases h0 : a.size = 0
    · exact .inl h0
    · refine .inr ⟨by omega, fun hx => hl ?_⟩
      have h1 := take_snoc a (a.size - 1) (by omega)
      rw [show a.size - 1 + 1 = a.size by omega, List.take_of_length_le (by rw [toList_length]; exact Nat.le_refl _)] at h1
      rw [h1, List.getLast?_append, hx]; rfl
  obtain ⟨X, hX⟩ : ∃ X, X = str (escQ false a.data.toList) := ⟨_, rfl⟩
  have HX : Hid (str (escQ false a.data.toList) = X) := hide hX.symm
  obtain ⟨Y, hY⟩ : ∃ Y, Y = str (escQ true a.data.toList) := ⟨_, rfl⟩
  have HY : Hid (str (escQ true a.data.toList) = Y) := hide hY.symm
  obtain ⟨Z, hZ⟩ : ∃ Z, Z = str (escQ false b.data.toList) := ⟨_, rfl⟩
  have HZ : Hid (str (escQ false b.data.toList) = Z) := hide hZ.symm
  obtain ⟨U, hU⟩ : ∃ U, U = str (escQ true b.data.toList) := ⟨_, rfl⟩
  have HU : Hid (str (escQ true b.data.toList) = U) := hide hU.symm
  have ha2 : a.size ≤ 1048576 := by omega
  have ha3 : a.size ≤ 17592186044416 := by omega
  have hb2 : b.size ≤ 1048576 := by omega
  have hb3 : b.size ≤ 17592186044416 := by omega
  obtain ⟨S, hS⟩ : ∃ S, S = a ++ b := ⟨_, rfl⟩
  have hSl : S.data.toList = a.data.toList ++ b.data.toList := by rw [hS]; simp
  have hSz : S.size = a.size + b.size := by rw [hS]; exact ByteArray.size_append
  have hS2 : S.size ≤ 1048576 := by omega
  have hS3 : S.size ≤ 17592186044416 := by omega
  have HXS : Hid (str (escQ false S.data.toList) = X ++ Z) := hide (by rw [hSl, esc_app false _ _ hl, str_append, ← hX, ← hZ])
  have HYS : Hid (str (escQ true S.data.toList) = Y ++ U) := hide (by rw [hSl, esc_app true _ _ hl, str_append, ← hY, ← hU])
  have HSS := hide hS
  have zl := toList_length a
  have zr := toList_length b
  have yX : X.size ≤ 40000 := by rw [hX, str_size]; have := esc_len false a.data.toList; omega
  have yY : Y.size ≤ 40000 := by rw [hY, str_size]; have := esc_len true a.data.toList; omega
  have yZ : Z.size ≤ 40000 := by rw [hZ, str_size]; have := esc_len false b.data.toList; omega
  have yU : U.size ≤ 40000 := by rw [hU, str_size]; have := esc_len true b.data.toList; omega
  clear hX hY hZ hU hSl hSz hl hS zl zr
  rcases hcase with h0 | ⟨hp, hx⟩
  · have p1 : decide ((0 : Int) < a.size) = false := decide_eq_false (by omega)
    have p2 : ¬ (0 : Int) < a.size := by omega
    have p3 : decide (0 < a.size) = false := decide_eq_false (by omega)
    clear h0
    go_enter Tryz.func14, Tryz.ntmps14
    go_wp2_with fail
    refine (short12_any a _ haa).mono ?_
    rintro e wq ⟨rfl, rfl⟩
    rw [HDa.out]
    go_wp2_with fail
    refine (short12_any b _ hbb).mono ?_
    rintro e wq ⟨rfl, rfl⟩
    rw [HDb.out]
    go_wp2_with fail
    rw [← HSS.out]
    refine (entText_any S _ hS3).mono ?_
    rintro e w1 ⟨rfl, hb1⟩
    have HE1 := hide (HE.out.kept hb1)
    have HB1 := hide (hb1)
    clear hb1
    rw [HXS.out]
    go_wp2_with fail
    refine (entText_any a _ ha3).mono ?_
    rintro e w2 ⟨rfl, hb2⟩
    have HE2 := hide (HE1.out.kept hb2)
    have HB2 := hide (HB1.out.trans (hb2.mono HB1.out.size))
    clear hb2
    rw [HX.out]
    go_wp2_with fail
    refine (entText_any b _ hb3).mono ?_
    rintro e w3 ⟨rfl, hb3⟩
    have HE3 := hide (HE2.out.kept hb3)
    have HB3 := hide (HB2.out.trans (hb3.mono HB2.out.size))
    clear hb3
    rw [HZ.out]
    go_wp2_with fail
    rw [← HSS.out]
    refine (entValue_any S _ hS2 HE3.out).mono ?_
    rintro e w4 ⟨rfl, hb4⟩
    have HE4 := hide (HE3.out.kept hb4)
    have HB4 := hide (HB3.out.trans (hb4.mono HB3.out.size))
    clear hb4
    rw [HYS.out]
    go_wp2_with fail
    refine (entValue_any a _ ha2 HE4.out).mono ?_
    rintro e w5 ⟨rfl, hb5⟩
    have HE5 := hide (HE4.out.kept hb5)
    have HB5 := hide (HB4.out.trans (hb5.mono HB4.out.size))
    clear hb5
    rw [HY.out]
    go_wp2_with fail
    refine (entValue_any b _ hb2 HE5.out).mono ?_
    rintro e w6 ⟨rfl, hb6⟩
    have HE6 := hide (HE5.out.kept hb6)
    have HB6 := hide (HB5.out.trans (hb6.mono HB5.out.size))
    clear hb6
    rw [HU.out]
    go_wp2_with fail
    refine (live12_any _ HE6.out).mono ?_
    rintro e w7 ⟨rfl, hb7⟩
    have HE7 := hide (HE6.out.kept hb7)
    have HB7 := hide (HB6.out.trans (hb7.mono HB6.out.size))
    clear hb7
    go_wp2_with fail
    go_ret
    exact ⟨rfl, HB7.out⟩
  · have t0 : ((a[a.size - 1].toNat : Int) == 194) = false := tF 194 hx (by omega)
    have p1 : (0 : Int) < a.size := by omega
    have p2 : decide ((0 : Int) < a.size) = true := decide_eq_true p1
    have p3 : IntKind.i64.wrap ((a.size : Int) - 1) = ((a.size - 1 : Nat) : Int) := by rw [IntWalk.i64_in _ (by omega)]; omega
    have p4 : a.size - 1 < a.size := by omega
    clear hx
    go_enter Tryz.func14, Tryz.ntmps14
    go_wp2_with fail
    refine (short12_any a _ haa).mono ?_
    rintro e wq ⟨rfl, rfl⟩
    rw [HDa.out]
    go_wp2_with fail
    refine (short12_any b _ hbb).mono ?_
    rintro e wq ⟨rfl, rfl⟩
    rw [HDb.out]
    go_wp2_with fail
    rw [← HSS.out]
    refine (entText_any S _ hS3).mono ?_
    rintro e w1 ⟨rfl, hb1⟩
    have HE1 := hide (HE.out.kept hb1)
    have HB1 := hide (hb1)
    clear hb1
    rw [HXS.out]
    go_wp2_with fail
    refine (entText_any a _ ha3).mono ?_
    rintro e w2 ⟨rfl, hb2⟩
    have HE2 := hide (HE1.out.kept hb2)
    have HB2 := hide (HB1.out.trans (hb2.mono HB1.out.size))
    clear hb2
    rw [HX.out]
    go_wp2_with fail
    refine (entText_any b _ hb3).mono ?_
    rintro e w3 ⟨rfl, hb3⟩
    have HE3 := hide (HE2.out.kept hb3)
    have HB3 := hide (HB2.out.trans (hb3.mono HB2.out.size))
    clear hb3
    rw [HZ.out]
    go_wp2_with fail
    rw [← HSS.out]
    refine (entValue_any S _ hS2 HE3.out).mono ?_
    rintro e w4 ⟨rfl, hb4⟩
    have HE4 := hide (HE3.out.kept hb4)
    have HB4 := hide (HB3.out.trans (hb4.mono HB3.out.size))
    clear hb4
    rw [HYS.out]
    go_wp2_with fail
    refine (entValue_any a _ ha2 HE4.out).mono ?_
    rintro e w5 ⟨rfl, hb5⟩
    have HE5 := hide (HE4.out.kept hb5)
    have HB5 := hide (HB4.out.trans (hb5.mono HB4.out.size))
    clear hb5
    rw [HY.out]
    go_wp2_with fail
    refine (entValue_any b _ hb2 HE5.out).mono ?_
    rintro e w6 ⟨rfl, hb6⟩
    have HE6 := hide (HE5.out.kept hb6)
    have HB6 := hide (HB5.out.trans (hb6.mono HB5.out.size))
    clear hb6
    rw [HU.out]
    go_wp2_with fail
    refine (live12_any _ HE6.out).mono ?_
    rintro e w7 ⟨rfl, hb7⟩
    have HE7 := hide (HE6.out.kept hb7)
    have HB7 := hide (HB6.out.trans (hb7.mono HB6.out.size))
    clear hb7
    go_wp2_with fail
    go_ret
    exact ⟨rfl, HB7.out⟩
end Go.Proofs.YtnnlhcjcdpdfcaaGreatDoor
