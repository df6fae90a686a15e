import Derived.Test.YtiejmkjpgjbodaaGreatDoorTreeN
namespace Go.Proofs.YtiejmkjpgjbodaaGreatDoor
open Go.RowKit
set_option linter.unusedVariables false
set_option linter.unusedSimpArgs false
set_option maxRecDepth 100000
theorem closes14_pure (n o : List UInt8) (h : o ≠ [112] ∧ o ≠ [100, 100] ∧ o ≠ [100, 116] ∧ o ≠ [116, 100] ∧ o ≠ [116, 104] ∧ o ≠ [108, 105] ∧ o ≠ [97] ∧ o ≠ [111, 112, 116, 105, 111, 110] ∧ o ≠ [116, 114] ∧ o ≠ [110, 111, 98, 114] ∧ o ≠ [98, 117, 116, 116, 111, 110]) : closesB n o = (headNB o && headNB n) := by
  unfold closesB
  rw [if_neg h.1, if_neg (fun e => e.elim h.2.1 h.2.2.1), if_neg (fun e => e.elim h.2.2.2.1 h.2.2.2.2.1), if_neg]
  have h2 := h.2.2.2.2.2
  simp only [sameL, List.contains_cons, List.contains_nil, Bool.or_false, Bool.or_eq_true, beq_iff_eq, not_or]
  exact h2
set_option maxHeartbeats 8000000 in
theorem closes14_any (n o : ByteArray) (w : World) : Calls Tryz.prog 32 #[.string n, .string o] w fun e w' => e = .returned (.bool (closesB n.data.toList o.data.toList)) ∧ w = w' := by
  by_cases h0 : o.data.toList = [112]
  · obtain rfl : o = ⟨#[112]⟩ := ext_list h0
    have hb := isBlock_any n w
    have he : closesB n.data.toList (⟨#[112]⟩ : ByteArray).data.toList = blockNL.contains n.data.toList := rfl
    rw [he]
    obtain ⟨bb, hbb⟩ : ∃ bb, bb = blockNL.contains n.data.toList := ⟨_, rfl⟩
    rw [← hbb] at hb ⊢
    have HB := hide hb
    clear h0 hb he hbb
    go_enter Tryz.func32, Tryz.ntmps32
    go_wp2_with fail
    refine HB.out.mono ?_
    rintro e w1 ⟨rfl, rfl⟩
    go_wp2_with fail
    go_ret
    exact ⟨rfl, rfl⟩
  by_cases h1 : o.data.toList = [100, 100]
  · obtain rfl : o = ⟨#[100, 100]⟩ := ext_list h1
    clear h0 h1
    by_cases m : n.data.toList = [100, 100]
    · obtain rfl : n = ⟨#[100, 100]⟩ := ext_list m
      clear m
      rw [show closesB (⟨#[100, 100]⟩ : ByteArray).data.toList (⟨#[100, 100]⟩ : ByteArray).data.toList = true by decide]
      go_enter Tryz.func32, Tryz.ntmps32
      go_wp2_with fail
      go_ret
      exact ⟨rfl, rfl⟩
    have m0 := m
    clear m
    by_cases m : n.data.toList = [100, 116]
    · obtain rfl : n = ⟨#[100, 116]⟩ := ext_list m
      clear m
      rw [show closesB (⟨#[100, 116]⟩ : ByteArray).data.toList (⟨#[100, 100]⟩ : ByteArray).data.toList = true by decide]
      go_enter Tryz.func32, Tryz.ntmps32
      go_wp2_with fail
      go_ret
      exact ⟨rfl, rfl⟩
    have m1 := m
    clear m
    have t0 : (n.toList == [100, 100]) = false := beq_eq_false_iff_ne.2 (by rw [bytes_list]; exact m0)
    have t1 : (n.toList == [100, 116]) = false := beq_eq_false_iff_ne.2 (by rw [bytes_list]; exact m1)
    have HE : closesB n.data.toList (⟨#[100, 100]⟩ : ByteArray).data.toList = false := by
      show decide (n.data.toList = [100, 100] ∨ n.data.toList = [100, 116]) = false
      exact decide_eq_false (by simp only [not_or]; exact ⟨m0, m1⟩)
    clear m0 m1
    rw [HE]
    clear HE
    go_enter Tryz.func32, Tryz.ntmps32
    go_wp2_with fail
    go_ret
    exact ⟨rfl, rfl⟩
  by_cases h2 : o.data.toList = [100, 116]
  · obtain rfl : o = ⟨#[100, 116]⟩ := ext_list h2
    clear h0 h1 h2
    by_cases m : n.data.toList = [100, 100]
    · obtain rfl : n = ⟨#[100, 100]⟩ := ext_list m
      clear m
      rw [show closesB (⟨#[100, 100]⟩ : ByteArray).data.toList (⟨#[100, 116]⟩ : ByteArray).data.toList = true by decide]
      go_enter Tryz.func32, Tryz.ntmps32
      go_wp2_with fail
      go_ret
      exact ⟨rfl, rfl⟩
    have m0 := m
    clear m
    by_cases m : n.data.toList = [100, 116]
    · obtain rfl : n = ⟨#[100, 116]⟩ := ext_list m
      clear m
      rw [show closesB (⟨#[100, 116]⟩ : ByteArray).data.toList (⟨#[100, 116]⟩ : ByteArray).data.toList = true by decide]
      go_enter Tryz.func32, Tryz.ntmps32
      go_wp2_with fail
      go_ret
      exact ⟨rfl, rfl⟩
    have m1 := m
    clear m
    have t0 : (n.toList == [100, 100]) = false := beq_eq_false_iff_ne.2 (by rw [bytes_list]; exact m0)
    have t1 : (n.toList == [100, 116]) = false := beq_eq_false_iff_ne.2 (by rw [bytes_list]; exact m1)
    have HE : closesB n.data.toList (⟨#[100, 116]⟩ : ByteArray).data.toList = false := by
      show decide (n.data.toList = [100, 100] ∨ n.data.toList = [100, 116]) = false
      exact decide_eq_false (by simp only [not_or]; exact ⟨m0, m1⟩)
    clear m0 m1
    rw [HE]
    clear HE
    go_enter Tryz.func32, Tryz.ntmps32
    go_wp2_with fail
    go_ret
    exact ⟨rfl, rfl⟩
  by_cases h3 : o.data.toList = [116, 100]
  · obtain rfl : o = ⟨#[116, 100]⟩ := ext_list h3
    clear h0 h1 h2 h3
    by_cases m : n.data.toList = [116, 100]
    · obtain rfl : n = ⟨#[116, 100]⟩ := ext_list m
      clear m
      rw [show closesB (⟨#[116, 100]⟩ : ByteArray).data.toList (⟨#[116, 100]⟩ : ByteArray).data.toList = true by decide]
      go_enter Tryz.func32, Tryz.ntmps32
      go_wp2_with fail
      go_ret
      exact ⟨rfl, rfl⟩
    have m0 := m
    clear m
    by_cases m : n.data.toList = [116, 104]
    · obtain rfl : n = ⟨#[116, 104]⟩ := ext_list m
      clear m
      rw [show closesB (⟨#[116, 104]⟩ : ByteArray).data.toList (⟨#[116, 100]⟩ : ByteArray).data.toList = true by decide]
      go_enter Tryz.func32, Tryz.ntmps32
      go_wp2_with fail
      go_ret
      exact ⟨rfl, rfl⟩
    have m1 := m
    clear m
    by_cases m : n.data.toList = [116, 114]
    · obtain rfl : n = ⟨#[116, 114]⟩ := ext_list m
      clear m
      rw [show closesB (⟨#[116, 114]⟩ : ByteArray).data.toList (⟨#[116, 100]⟩ : ByteArray).data.toList = true by decide]
      go_enter Tryz.func32, Tryz.ntmps32
      go_wp2_with fail
      go_ret
      exact ⟨rfl, rfl⟩
    have m2 := m
    clear m
    have t0 : (n.toList == [116, 100]) = false := beq_eq_false_iff_ne.2 (by rw [bytes_list]; exact m0)
    have t1 : (n.toList == [116, 104]) = false := beq_eq_false_iff_ne.2 (by rw [bytes_list]; exact m1)
    have t2 : (n.toList == [116, 114]) = false := beq_eq_false_iff_ne.2 (by rw [bytes_list]; exact m2)
    have HE : closesB n.data.toList (⟨#[116, 100]⟩ : ByteArray).data.toList = false := by
      show decide (n.data.toList = [116, 100] ∨ n.data.toList = [116, 104] ∨ n.data.toList = [116, 114]) = false
      exact decide_eq_false (by simp only [not_or]; exact ⟨m0, m1, m2⟩)
    clear m0 m1 m2
    rw [HE]
    clear HE
    go_enter Tryz.func32, Tryz.ntmps32
    go_wp2_with fail
    go_ret
    exact ⟨rfl, rfl⟩
  by_cases h4 : o.data.toList = [116, 104]
  · obtain rfl : o = ⟨#[116, 104]⟩ := ext_list h4
    clear h0 h1 h2 h3 h4
    by_cases m : n.data.toList = [116, 100]
    · obtain rfl : n = ⟨#[116, 100]⟩ := ext_list m
      clear m
      rw [show closesB (⟨#[116, 100]⟩ : ByteArray).data.toList (⟨#[116, 104]⟩ : ByteArray).data.toList = true by decide]
      go_enter Tryz.func32, Tryz.ntmps32
      go_wp2_with fail
      go_ret
      exact ⟨rfl, rfl⟩
    have m0 := m
    clear m
    by_cases m : n.data.toList = [116, 104]
    · obtain rfl : n = ⟨#[116, 104]⟩ := ext_list m
      clear m
      rw [show closesB (⟨#[116, 104]⟩ : ByteArray).data.toList (⟨#[116, 104]⟩ : ByteArray).data.toList = true by decide]
      go_enter Tryz.func32, Tryz.ntmps32
      go_wp2_with fail
      go_ret
      exact ⟨rfl, rfl⟩
    have m1 := m
    clear m
    by_cases m : n.data.toList = [116, 114]
    · obtain rfl : n = ⟨#[116, 114]⟩ := ext_list m
      clear m
      rw [show closesB (⟨#[116, 114]⟩ : ByteArray).data.toList (⟨#[116, 104]⟩ : ByteArray).data.toList = true by decide]
      go_enter Tryz.func32, Tryz.ntmps32
      go_wp2_with fail
      go_ret
      exact ⟨rfl, rfl⟩
    have m2 := m
    clear m
    have t0 : (n.toList == [116, 100]) = false := beq_eq_false_iff_ne.2 (by rw [bytes_list]; exact m0)
    have t1 : (n.toList == [116, 104]) = false := beq_eq_false_iff_ne.2 (by rw [bytes_list]; exact m1)
    have t2 : (n.toList == [116, 114]) = false := beq_eq_false_iff_ne.2 (by rw [bytes_list]; exact m2)
    have HE : closesB n.data.toList (⟨#[116, 104]⟩ : ByteArray).data.toList = false := by
      show decide (n.data.toList = [116, 100] ∨ n.data.toList = [116, 104] ∨ n.data.toList = [116, 114]) = false
      exact decide_eq_false (by simp only [not_or]; exact ⟨m0, m1, m2⟩)
    clear m0 m1 m2
    rw [HE]
    clear HE
    go_enter Tryz.func32, Tryz.ntmps32
    go_wp2_with fail
    go_ret
    exact ⟨rfl, rfl⟩
  by_cases h5 : o.data.toList = [108, 105]
  · obtain rfl : o = ⟨#[108, 105]⟩ := ext_list h5
    clear h0 h1 h2 h3 h4 h5
    by_cases m : n.data.toList = [108, 105]
    · obtain rfl : n = ⟨#[108, 105]⟩ := ext_list m
      clear m
      rw [show closesB (⟨#[108, 105]⟩ : ByteArray).data.toList (⟨#[108, 105]⟩ : ByteArray).data.toList = true by decide]
      go_enter Tryz.func32, Tryz.ntmps32
      go_wp2_with fail
      go_ret
      exact ⟨rfl, rfl⟩
    have m0 := m
    clear m
    have t0 : (n.toList == [108, 105]) = false := beq_eq_false_iff_ne.2 (by rw [bytes_list]; exact m0)
    have HE : closesB n.data.toList (⟨#[108, 105]⟩ : ByteArray).data.toList = false := by
      show decide (n.data.toList = [108, 105]) = false
      exact decide_eq_false m0
    clear m0
    rw [HE]
    clear HE
    go_enter Tryz.func32, Tryz.ntmps32
    go_wp2_with fail
    go_ret
    exact ⟨rfl, rfl⟩
  by_cases h6 : o.data.toList = [97]
  · obtain rfl : o = ⟨#[97]⟩ := ext_list h6
    clear h0 h1 h2 h3 h4 h5 h6
    by_cases m : n.data.toList = [97]
    · obtain rfl : n = ⟨#[97]⟩ := ext_list m
      clear m
      rw [show closesB (⟨#[97]⟩ : ByteArray).data.toList (⟨#[97]⟩ : ByteArray).data.toList = true by decide]
      go_enter Tryz.func32, Tryz.ntmps32
      go_wp2_with fail
      go_ret
      exact ⟨rfl, rfl⟩
    have m0 := m
    clear m
    have t0 : (n.toList == [97]) = false := beq_eq_false_iff_ne.2 (by rw [bytes_list]; exact m0)
    have HE : closesB n.data.toList (⟨#[97]⟩ : ByteArray).data.toList = false := by
      show decide (n.data.toList = [97]) = false
      exact decide_eq_false m0
    clear m0
    rw [HE]
    clear HE
    go_enter Tryz.func32, Tryz.ntmps32
    go_wp2_with fail
    go_ret
    exact ⟨rfl, rfl⟩
  by_cases h7 : o.data.toList = [111, 112, 116, 105, 111, 110]
  · obtain rfl : o = ⟨#[111, 112, 116, 105, 111, 110]⟩ := ext_list h7
    clear h0 h1 h2 h3 h4 h5 h6 h7
    by_cases m : n.data.toList = [111, 112, 116, 105, 111, 110]
    · obtain rfl : n = ⟨#[111, 112, 116, 105, 111, 110]⟩ := ext_list m
      clear m
      rw [show closesB (⟨#[111, 112, 116, 105, 111, 110]⟩ : ByteArray).data.toList (⟨#[111, 112, 116, 105, 111, 110]⟩ : ByteArray).data.toList = true by decide]
      go_enter Tryz.func32, Tryz.ntmps32
      go_wp2_with fail
      go_ret
      exact ⟨rfl, rfl⟩
    have m0 := m
    clear m
    have t0 : (n.toList == [111, 112, 116, 105, 111, 110]) = false := beq_eq_false_iff_ne.2 (by rw [bytes_list]; exact m0)
    have HE : closesB n.data.toList (⟨#[111, 112, 116, 105, 111, 110]⟩ : ByteArray).data.toList = false := by
      show decide (n.data.toList = [111, 112, 116, 105, 111, 110]) = false
      exact decide_eq_false m0
    clear m0
    rw [HE]
    clear HE
    go_enter Tryz.func32, Tryz.ntmps32
    go_wp2_with fail
    go_ret
    exact ⟨rfl, rfl⟩
  by_cases h8 : o.data.toList = [116, 114]
  · obtain rfl : o = ⟨#[116, 114]⟩ := ext_list h8
    clear h0 h1 h2 h3 h4 h5 h6 h7 h8
    by_cases m : n.data.toList = [116, 114]
    · obtain rfl : n = ⟨#[116, 114]⟩ := ext_list m
      clear m
      rw [show closesB (⟨#[116, 114]⟩ : ByteArray).data.toList (⟨#[116, 114]⟩ : ByteArray).data.toList = true by decide]
      go_enter Tryz.func32, Tryz.ntmps32
      go_wp2_with fail
      go_ret
      exact ⟨rfl, rfl⟩
    have m0 := m
    clear m
    have t0 : (n.toList == [116, 114]) = false := beq_eq_false_iff_ne.2 (by rw [bytes_list]; exact m0)
    have HE : closesB n.data.toList (⟨#[116, 114]⟩ : ByteArray).data.toList = false := by
      show decide (n.data.toList = [116, 114]) = false
      exact decide_eq_false m0
    clear m0
    rw [HE]
    clear HE
    go_enter Tryz.func32, Tryz.ntmps32
    go_wp2_with fail
    go_ret
    exact ⟨rfl, rfl⟩
  by_cases h9 : o.data.toList = [110, 111, 98, 114]
  · obtain rfl : o = ⟨#[110, 111, 98, 114]⟩ := ext_list h9
    clear h0 h1 h2 h3 h4 h5 h6 h7 h8 h9
    by_cases m : n.data.toList = [110, 111, 98, 114]
    · obtain rfl : n = ⟨#[110, 111, 98, 114]⟩ := ext_list m
      clear m
      rw [show closesB (⟨#[110, 111, 98, 114]⟩ : ByteArray).data.toList (⟨#[110, 111, 98, 114]⟩ : ByteArray).data.toList = true by decide]
      go_enter Tryz.func32, Tryz.ntmps32
      go_wp2_with fail
      go_ret
      exact ⟨rfl, rfl⟩
    have m0 := m
    clear m
    have t0 : (n.toList == [110, 111, 98, 114]) = false := beq_eq_false_iff_ne.2 (by rw [bytes_list]; exact m0)
    have HE : closesB n.data.toList (⟨#[110, 111, 98, 114]⟩ : ByteArray).data.toList = false := by
      show decide (n.data.toList = [110, 111, 98, 114]) = false
      exact decide_eq_false m0
    clear m0
    rw [HE]
    clear HE
    go_enter Tryz.func32, Tryz.ntmps32
    go_wp2_with fail
    go_ret
    exact ⟨rfl, rfl⟩
  by_cases h10 : o.data.toList = [98, 117, 116, 116, 111, 110]
  · obtain rfl : o = ⟨#[98, 117, 116, 116, 111, 110]⟩ := ext_list h10
    clear h0 h1 h2 h3 h4 h5 h6 h7 h8 h9 h10
    by_cases m : n.data.toList = [98, 117, 116, 116, 111, 110]
    · obtain rfl : n = ⟨#[98, 117, 116, 116, 111, 110]⟩ := ext_list m
      clear m
      rw [show closesB (⟨#[98, 117, 116, 116, 111, 110]⟩ : ByteArray).data.toList (⟨#[98, 117, 116, 116, 111, 110]⟩ : ByteArray).data.toList = true by decide]
      go_enter Tryz.func32, Tryz.ntmps32
      go_wp2_with fail
      go_ret
      exact ⟨rfl, rfl⟩
    have m0 := m
    clear m
    have t0 : (n.toList == [98, 117, 116, 116, 111, 110]) = false := beq_eq_false_iff_ne.2 (by rw [bytes_list]; exact m0)
    have HE : closesB n.data.toList (⟨#[98, 117, 116, 116, 111, 110]⟩ : ByteArray).data.toList = false := by
      show decide (n.data.toList = [98, 117, 116, 116, 111, 110]) = false
      exact decide_eq_false m0
    clear m0
    rw [HE]
    clear HE
    go_enter Tryz.func32, Tryz.ntmps32
    go_wp2_with fail
    go_ret
    exact ⟨rfl, rfl⟩
  rw [closes14_pure n.data.toList o.data.toList ⟨h0, h1, h2, h3, h4, h5, h6, h7, h8, h9, h10⟩]
  have t0 : (o.toList == [112]) = false := beq_eq_false_iff_ne.2 (by rw [bytes_list]; exact h0)
  have t1 : (o.toList == [100, 100]) = false := beq_eq_false_iff_ne.2 (by rw [bytes_list]; exact h1)
  have t2 : (o.toList == [100, 116]) = false := beq_eq_false_iff_ne.2 (by rw [bytes_list]; exact h2)
  have t3 : (o.toList == [116, 100]) = false := beq_eq_false_iff_ne.2 (by rw [bytes_list]; exact h3)
  have t4 : (o.toList == [116, 104]) = false := beq_eq_false_iff_ne.2 (by rw [bytes_list]; exact h4)
  have t5 : (o.toList == [108, 105]) = false := beq_eq_false_iff_ne.2 (by rw [bytes_list]; exact h5)
  have t6 : (o.toList == [97]) = false := beq_eq_false_iff_ne.2 (by rw [bytes_list]; exact h6)
  have t7 : (o.toList == [111, 112, 116, 105, 111, 110]) = false := beq_eq_false_iff_ne.2 (by rw [bytes_list]; exact h7)
  have t8 : (o.toList == [116, 114]) = false := beq_eq_false_iff_ne.2 (by rw [bytes_list]; exact h8)
  have t9 : (o.toList == [110, 111, 98, 114]) = false := beq_eq_false_iff_ne.2 (by rw [bytes_list]; exact h9)
  have t10 : (o.toList == [98, 117, 116, 116, 111, 110]) = false := beq_eq_false_iff_ne.2 (by rw [bytes_list]; exact h10)
  clear h0 h1 h2 h3 h4 h5 h6 h7 h8 h9 h10
  have hh : ∀ (s : ByteArray) (bb : Bool), headNB s.data.toList = bb → Calls Tryz.prog 80 #[.string s] w fun e w' => e = .returned (.bool bb) ∧ w = w' := fun s bb e => by rw [← e]; exact isHeading_any s w
  cases ho : headNB o.data.toList with
  | false =>
    have HO := hide (hh o false ho)
    clear hh ho
    go_enter Tryz.func32, Tryz.ntmps32
    go_wp2_with fail
    refine HO.out.mono ?_
    rintro e w1 ⟨rfl, rfl⟩
    go_wp2_with fail
    go_ret
    exact ⟨rfl, rfl⟩
  | true =>
    have HO := hide (hh o true ho)
    obtain ⟨bb, hbb⟩ : ∃ bb, bb = headNB n.data.toList := ⟨_, rfl⟩
    have HN := hide (hh n bb hbb.symm)
    rw [← hbb]
    clear hh ho hbb
    go_enter Tryz.func32, Tryz.ntmps32
    go_wp2_with fail
    refine HO.out.mono ?_
    rintro e w1 ⟨rfl, rfl⟩
    go_wp2_with fail
    refine HN.out.mono ?_
    rintro e w1 ⟨rfl, rfl⟩
    go_wp2_with fail
    go_ret
    exact ⟨rfl, rfl⟩
end Go.Proofs.YtiejmkjpgjbodaaGreatDoor
