/- More of the first texts of this claim in one: each with its own head. No statement is proved here. -/
import Derived.Test.YtiejmkjpgjbodaaGreatDoorBaseP
import Derived.Test.YtiejmkjpgjbodaaGreatDoorBaseN
import Derived.BigQuiet
import Derived.Deep.QuietTactic
import Derived.Laws.OwnMore
import Derived.Below
import Derived.BigRegion
import Derived.Lib.AppendStr
namespace Go.Proofs.YtiejmkjpgjbodaaGreatDoor
open Go.RowKit
set_option linter.unusedVariables false
set_option linter.unusedSimpArgs false
set_option maxRecDepth 100000
theorem closes14_pure (n o : List UInt8) (h : o ≠ [112] ∧ o ≠ [100, 100] ∧ o ≠ [100, 116] ∧ o ≠ [116, 100] ∧ o ≠ [116, 104] ∧ o ≠ [108, 105] ∧ o ≠ [97] ∧ o ≠ [111, 112, 116, 105, 111, 110] ∧ o ≠ [116, 114] ∧ o ≠ [110, 111, 98, 114] ∧ o ≠ [98, 117, 116, 116, 111, 110]) : closesB n o = (headNB o && headNB n) := by
  unfold closesB
  rw [if_neg h.1, if_neg (fun e => e.elim h.2.1 h.2.2.1), if_neg (fun e => e.elim h.2.2.2.1 h.2.2.2.2.1), if_neg]
  have h2 := h.2.2.2.2.2
  simp only [sameL, List.contains_cons, List.contains_nil, Bool.or_false, Bool.or_eq_true, beq_iff_eq, not_or]
  exact h2
set_option maxHeartbeats 8000000 in
theorem closes14_any (n o : ByteArray) (w : World) : Calls Tryz.prog 32 #[.string n, .string o] w fun e w' => e = .returned (.bool (closesB n.data.toList o.data.toList)) ∧ w = w' := by
  by_cases h0 : o.data.toList = [112]
  · obtain rfl : o = ⟨#[112]⟩ := ext_list h0
    have hb := isBlock_any n w
    have he : closesB n.data.toList (⟨#[112]⟩ : ByteArray).data.toList = blockNL.contains n.data.toList := rfl
    rw [he]
    obtain ⟨bb, hbb⟩ : ∃ bb, bb = blockNL.contains n.data.toList := ⟨_, rfl⟩
    rw [← hbb] at hb ⊢
    have HB := hide hb
    clear h0 hb he hbb
    go_enter Tryz.func32, Tryz.ntmps32
    go_wp2_with fail
    refine HB.out.mono ?_
    rintro e w1 ⟨rfl, rfl⟩
    go_wp2_with fail
    go_ret
    exact ⟨rfl, rfl⟩
  by_cases h1 : o.data.toList = [100, 100]
  · obtain rfl : o = ⟨#[100, 100]⟩ := ext_list h1
    clear h0 h1
    by_cases m : n.data.toList = [100, 100]
    · obtain rfl : n = ⟨#[100, 100]⟩ := ext_list m
      clear m
      rw [show closesB (⟨#[100, 100]⟩ : ByteArray).data.toList (⟨#[100, 100]⟩ : ByteArray).data.toList = true by decide]
      go_enter Tryz.func32, Tryz.ntmps32
      go_wp2_with fail
      go_ret
      exact ⟨rfl, rfl⟩
    have m0 := m
    clear m
    by_cases m : n.data.toList = [100, 116]
    · obtain rfl : n = ⟨#[100, 116]⟩ := ext_list m
      clear m
      rw [show closesB (⟨#[100, 116]⟩ : ByteArray).data.toList (⟨#[100, 100]⟩ : ByteArray).data.toList = true by decide]
      go_enter Tryz.func32, Tryz.ntmps32
      go_wp2_with fail
      go_ret
      exact ⟨rfl, rfl⟩
    have m1 := m
    clear m
    have t0 : (n.toList == [100, 100]) = false := beq_eq_false_iff_ne.2 (by rw [bytes_list]; exact m0)
    have t1 : (n.toList == [100, 116]) = false := beq_eq_false_iff_ne.2 (by rw [bytes_list]; exact m1)
    have HE : closesB n.data.toList (⟨#[100, 100]⟩ : ByteArray).data.toList = false := by
      show decide (n.data.toList = [100, 100] ∨ n.data.toList = [100, 116]) = false
      exact decide_eq_false (by simp only [not_or]; exact ⟨m0, m1⟩)
    clear m0 m1
    rw [HE]
    clear HE
    go_enter Tryz.func32, Tryz.ntmps32
    go_wp2_with fail
    go_ret
    exact ⟨rfl, rfl⟩
  by_cases h2 : o.data.toList = [100, 116]
  · obtain rfl : o = ⟨#[100, 116]⟩ := ext_list h2
    clear h0 h1 h2
    by_cases m : n.data.toList = [100, 100]
    · obtain rfl : n = ⟨#[100, 100]⟩ := ext_list m
      clear m
      rw [show closesB (⟨#[100, 100]⟩ : ByteArray).data.toList (⟨#[100, 116]⟩ : ByteArray).data.toList = true by decide]
      go_enter Tryz.func32, Tryz.ntmps32
      go_wp2_with fail
      go_ret
      exact ⟨rfl, rfl⟩
    have m0 := m
    clear m
    by_cases m : n.data.toList = [100, 116]
    · obtain rfl : n = ⟨#[100, 116]⟩ := ext_list m
      clear m
      rw [show closesB (⟨#[100, 116]⟩ : ByteArray).data.toList (⟨#[100, 116]⟩ : ByteArray).data.toList = true by decide]
      go_enter Tryz.func32, Tryz.ntmps32
      go_wp2_with fail
      go_ret
      exact ⟨rfl, rfl⟩
    have m1 := m
    clear m
    have t0 : (n.toList == [100, 100]) = false := beq_eq_false_iff_ne.2 (by rw [bytes_list]; exact m0)
    have t1 : (n.toList == [100, 116]) = false := beq_eq_false_iff_ne.2 (by rw [bytes_list]; exact m1)
    have HE : closesB n.data.toList (⟨#[100, 116]⟩ : ByteArray).data.toList = false := by
      show decide (n.data.toList = [100, 100] ∨ n.data.toList = [100, 116]) = false
      exact decide_eq_false (by simp only [not_or]; exact ⟨m0, m1⟩)
    clear m0 m1
    rw [HE]
    clear HE
    go_enter Tryz.func32, Tryz.ntmps32
    go_wp2_with fail
    go_ret
    exact ⟨rfl, rfl⟩
  by_cases h3 : o.data.toList = [116, 100]
  · obtain rfl : o = ⟨#[116, 100]⟩ := ext_list h3
    clear h0 h1 h2 h3
    by_cases m : n.data.toList = [116, 100]
    · obtain rfl : n = ⟨#[116, 100]⟩ := ext_list m
      clear m
      rw [show closesB (⟨#[116, 100]⟩ : ByteArray).data.toList (⟨#[116, 100]⟩ : ByteArray).data.toList = true by decide]
      go_enter Tryz.func32, Tryz.ntmps32
      go_wp2_with fail
      go_ret
      exact ⟨rfl, rfl⟩
    have m0 := m
    clear m
    by_cases m : n.data.toList = [116, 104]
    · obtain rfl : n = ⟨#[116, 104]⟩ := ext_list m
      clear m
      rw [show closesB (⟨#[116, 104]⟩ : ByteArray).data.toList (⟨#[116, 100]⟩ : ByteArray).data.toList = true by decide]
      go_enter Tryz.func32, Tryz.ntmps32
      go_wp2_with fail
      go_ret
      exact ⟨rfl, rfl⟩
    have m1 := m
    clear m
    by_cases m : n.data.toList = [116, 114]
    · obtain rfl : n = ⟨#[116, 114]⟩ := ext_list m
      clear m
      rw [show closesB (⟨#[116, 114]⟩ : ByteArray).data.toList (⟨#[116, 100]⟩ : ByteArray).data.toList = true by decide]
      go_enter Tryz.func32, Tryz.ntmps32
      go_wp2_with fail
      go_ret
      exact ⟨rfl, rfl⟩
    have m2 := m
    clear m
    have t0 : (n.toList == [116, 100]) = false := beq_eq_false_iff_ne.2 (by rw [bytes_list]; exact m0)
    have t1 : (n.toList == [116, 104]) = false := beq_eq_false_iff_ne.2 (by rw [bytes_list]; exact m1)
    have t2 : (n.toList == [116, 114]) = false := beq_eq_false_iff_ne.2 (by rw [bytes_list]; exact m2)
    have HE : closesB n.data.toList (⟨#[116, 100]⟩ : ByteArray).data.toList = false := by
      show decide (n.data.toList = [116, 100] ∨ n.data.toList = [116, 104] ∨ n.data.toList = [116, 114]) = false
      exact decide_eq_false (by simp only [not_or]; exact ⟨m0, m1, m2⟩)
    clear m0 m1 m2
    rw [HE]
    clear HE
    go_enter Tryz.func32, Tryz.ntmps32
    go_wp2_with fail
    go_ret
    exact ⟨rfl, rfl⟩
  by_cases h4 : o.data.toList = [116, 104]
  · obtain rfl : o = ⟨#[116, 104]⟩ := ext_list h4
    clear h0 h1 h2 h3 h4
    by_cases m : n.data.toList = [116, 100]
    · obtain rfl : n = ⟨#[116, 100]⟩ := ext_list m
      clear m
      rw [show closesB (⟨#[116, 100]⟩ : ByteArray).data.toList (⟨#[116, 104]⟩ : ByteArray).data.toList = true by decide]
      go_enter Tryz.func32, Tryz.ntmps32
      go_wp2_with fail
      go_ret
      exact ⟨rfl, rfl⟩
    have m0 := m
    clear m
    by_cases m : n.data.toList = [116, 104]
    · obtain rfl : n = ⟨#[116, 104]⟩ := ext_list m
      clear m
      rw [show closesB (⟨#[116, 104]⟩ : ByteArray).data.toList (⟨#[116, 104]⟩ : ByteArray).data.toList = true by decide]
      go_enter Tryz.func32, Tryz.ntmps32
      go_wp2_with fail
      go_ret
      exact ⟨rfl, rfl⟩
    have m1 := m
    clear m
    by_cases m : n.data.toList = [116, 114]
    · obtain rfl : n = ⟨#[116, 114]⟩ := ext_list m
      clear m
      rw [show closesB (⟨#[116, 114]⟩ : ByteArray).data.toList (⟨#[116, 104]⟩ : ByteArray).data.toList = true by decide]
      go_enter Tryz.func32, Tryz.ntmps32
      go_wp2_with fail
      go_ret
      exact ⟨rfl, rfl⟩
    have m2 := m
    clear m
    have t0 : (n.toList == [116, 100]) = false := beq_eq_false_iff_ne.2 (by rw [bytes_list]; exact m0)
    have t1 : (n.toList == [116, 104]) = false := beq_eq_false_iff_ne.2 (by rw [bytes_list]; exact m1)
    have t2 : (n.toList == [116, 114]) = false := beq_eq_false_iff_ne.2 (by rw [bytes_list]; exact m2)
    have HE : closesB n.data.toList (⟨#[116, 104]⟩ : ByteArray).data.toList = false := by
      show decide (n.data.toList = [116, 100] ∨ n.data.toList = [116, 104] ∨ n.data.toList = [116, 114]) = false
      exact decide_eq_false (by simp only [not_or]; exact ⟨m0, m1, m2⟩)
    clear m0 m1 m2
    rw [HE]
    clear HE
    go_enter Tryz.func32, Tryz.ntmps32
    go_wp2_with fail
    go_ret
    exact ⟨rfl, rfl⟩
  by_cases h5 : o.data.toList = [108, 105]
  · obtain rfl : o = ⟨#[108, 105]⟩ := ext_list h5
    clear h0 h1 h2 h3 h4 h5
    by_cases m : n.data.toList = [108, 105]
    · obtain rfl : n = ⟨#[108, 105]⟩ := ext_list m
      clear m
      rw [show closesB (⟨#[108, 105]⟩ : ByteArray).data.toList (⟨#[108, 105]⟩ : ByteArray).data.toList = true by decide]
      go_enter Tryz.func32, Tryz.ntmps32
      go_wp2_with fail
      go_ret
      exact ⟨rfl, rfl⟩
    have m0 := m
    clear m
    have t0 : (n.toList == [108, 105]) = false := beq_eq_false_iff_ne.2 (by rw [bytes_list]; exact m0)
    have HE : closesB n.data.toList (⟨#[108, 105]⟩ : ByteArray).data.toList = false := by
      show decide (n.data.toList = [108, 105]) = false
      exact decide_eq_false m0
    clear m0
    rw [HE]
    clear HE
    go_enter Tryz.func32, Tryz.ntmps32
    go_wp2_with fail
    go_ret
    exact ⟨rfl, rfl⟩
  by_cases h6 : o.data.toList = [97]
  · obtain rfl : o = ⟨#[97]⟩ := ext_list h6
    clear h0 h1 h2 h3 h4 h5 h6
    by_cases m : n.data.toList = [97]
    · obtain rfl : n = ⟨#[97]⟩ := ext_list m
      clear m
      rw [show closesB (⟨#[97]⟩ : ByteArray).data.toList (⟨#[97]⟩ : ByteArray).data.toList = true by decide]
      go_enter Tryz.func32, Tryz.ntmps32
      go_wp2_with fail
      go_ret
      exact ⟨rfl, rfl⟩
    have m0 := m
    clear m
    have t0 : (n.toList == [97]) = false := beq_eq_false_iff_ne.2 (by rw [bytes_list]; exact m0)
    have HE : closesB n.data.toList (⟨#[97]⟩ : ByteArray).data.toList = false := by
      show decide (n.data.toList = [97]) = false
      exact decide_eq_false m0
    clear m0
    rw [HE]
    clear HE
    go_enter Tryz.func32, Tryz.ntmps32
    go_wp2_with fail
    go_ret
    exact ⟨rfl, rfl⟩
  by_cases h7 : o.data.toList = [111, 112, 116, 105, 111, 110]
  · obtain rfl : o = ⟨#[111, 112, 116, 105, 111, 110]⟩ := ext_list h7
    clear h0 h1 h2 h3 h4 h5 h6 h7
    by_cases m : n.data.toList = [111, 112, 116, 105, 111, 110]
    · obtain rfl : n = ⟨#[111, 112, 116, 105, 111, 110]⟩ := ext_list m
      clear m
      rw [show closesB (⟨#[111, 112, 116, 105, 111, 110]⟩ : ByteArray).data.toList (⟨#[111, 112, 116, 105, 111, 110]⟩ : ByteArray).data.toList = true by decide]
      go_enter Tryz.func32, Tryz.ntmps32
      go_wp2_with fail
      go_ret
      exact ⟨rfl, rfl⟩
    have m0 := m
    clear m
    have t0 : (n.toList == [111, 112, 116, 105, 111, 110]) = false := beq_eq_false_iff_ne.2 (by rw [bytes_list]; exact m0)
    have HE : closesB n.data.toList (⟨#[111, 112, 116, 105, 111, 110]⟩ : ByteArray).data.toList = false := by
      show decide (n.data.toList = [111, 112, 116, 105, 111, 110]) = false
      exact decide_eq_false m0
    clear m0
    rw [HE]
    clear HE
    go_enter Tryz.func32, Tryz.ntmps32
    go_wp2_with fail
    go_ret
    exact ⟨rfl, rfl⟩
  by_cases h8 : o.data.toList = [116, 114]
  · obtain rfl : o = ⟨#[116, 114]⟩ := ext_list h8
    clear h0 h1 h2 h3 h4 h5 h6 h7 h8
    by_cases m : n.data.toList = [116, 114]
    · obtain rfl : n = ⟨#[116, 114]⟩ := ext_list m
      clear m
      rw [show closesB (⟨#[116, 114]⟩ : ByteArray).data.toList (⟨#[116, 114]⟩ : ByteArray).data.toList = true by decide]
      go_enter Tryz.func32, Tryz.ntmps32
      go_wp2_with fail
      go_ret
      exact ⟨rfl, rfl⟩
    have m0 := m
    clear m
    have t0 : (n.toList == [116, 114]) = false := beq_eq_false_iff_ne.2 (by rw [bytes_list]; exact m0)
    have HE : closesB n.data.toList (⟨#[116, 114]⟩ : ByteArray).data.toList = false := by
      show decide (n.data.toList = [116, 114]) = false
      exact decide_eq_false m0
    clear m0
    rw [HE]
    clear HE
    go_enter Tryz.func32, Tryz.ntmps32
    go_wp2_with fail
    go_ret
    exact ⟨rfl, rfl⟩
  by_cases h9 : o.data.toList = [110, 111, 98, 114]
  · obtain rfl : o = ⟨#[110, 111, 98, 114]⟩ := ext_list h9
    clear h0 h1 h2 h3 h4 h5 h6 h7 h8 h9
    by_cases m : n.data.toList = [110, 111, 98, 114]
    · obtain rfl : n = ⟨#[110, 111, 98, 114]⟩ := ext_list m
      clear m
      rw [show closesB (⟨#[110, 111, 98, 114]⟩ : ByteArray).data.toList (⟨#[110, 111, 98, 114]⟩ : ByteArray).data.toList = true by decide]
      go_enter Tryz.func32, Tryz.ntmps32
      go_wp2_with fail
      go_ret
      exact ⟨rfl, rfl⟩
    have m0 := m
    clear m
    have t0 : (n.toList == [110, 111, 98, 114]) = false := beq_eq_false_iff_ne.2 (by rw [bytes_list]; exact m0)
    have HE : closesB n.data.toList (⟨#[110, 111, 98, 114]⟩ : ByteArray).data.toList = false := by
      show decide (n.data.toList = [110, 111, 98, 114]) = false
      exact decide_eq_false m0
    clear m0
    rw [HE]
    clear HE
    go_enter Tryz.func32, Tryz.ntmps32
    go_wp2_with fail
    go_ret
    exact ⟨rfl, rfl⟩
  by_cases h10 : o.data.toList = [98, 117, 116, 116, 111, 110]
  · obtain rfl : o = ⟨#[98, 117, 116, 116, 111, 110]⟩ := ext_list h10
    clear h0 h1 h2 h3 h4 h5 h6 h7 h8 h9 h10
    by_cases m : n.data.toList = [98, 117, 116, 116, 111, 110]
    · obtain rfl : n = ⟨#[98, 117, 116, 116, 111, 110]⟩ := ext_list m
      clear m
      rw [show closesB (⟨#[98, 117, 116, 116, 111, 110]⟩ : ByteArray).data.toList (⟨#[98, 117, 116, 116, 111, 110]⟩ : ByteArray).data.toList = true by decide]
      go_enter Tryz.func32, Tryz.ntmps32
      go_wp2_with fail
      go_ret
      exact ⟨rfl, rfl⟩
    have m0 := m
    clear m
    have t0 : (n.toList == [98, 117, 116, 116, 111, 110]) = false := beq_eq_false_iff_ne.2 (by rw [bytes_list]; exact m0)
    have HE : closesB n.data.toList (⟨#[98, 117, 116, 116, 111, 110]⟩ : ByteArray).data.toList = false := by
      show decide (n.data.toList = [98, 117, 116, 116, 111, 110]) = false
      exact decide_eq_false m0
    clear m0
    rw [HE]
    clear HE
    go_enter Tryz.func32, Tryz.ntmps32
    go_wp2_with fail
    go_ret
    exact ⟨rfl, rfl⟩
  rw [closes14_pure n.data.toList o.data.toList ⟨h0, h1, h2, h3, h4, h5, h6, h7, h8, h9, h10⟩]
  have t0 : (o.toList == [112]) = false := beq_eq_false_iff_ne.2 (by rw [bytes_list]; exact h0)
  have t1 : (o.toList == [100, 100]) = false := beq_eq_false_iff_ne.2 (by rw [bytes_list]; exact h1)
  have t2 : (o.toList == [100, 116]) = false := beq_eq_false_iff_ne.2 (by rw [bytes_list]; exact h2)
  have t3 : (o.toList == [116, 100]) = false := beq_eq_false_iff_ne.2 (by rw [bytes_list]; exact h3)
  have t4 : (o.toList == [116, 104]) = false := beq_eq_false_iff_ne.2 (by rw [bytes_list]; exact h4)
  have t5 : (o.toList == [108, 105]) = false := beq_eq_false_iff_ne.2 (by rw [bytes_list]; exact h5)
  have t6 : (o.toList == [97]) = false := beq_eq_false_iff_ne.2 (by rw [bytes_list]; exact h6)
  have t7 : (o.toList == [111, 112, 116, 105, 111, 110]) = false := beq_eq_false_iff_ne.2 (by rw [bytes_list]; exact h7)
  have t8 : (o.toList == [116, 114]) = false := beq_eq_false_iff_ne.2 (by rw [bytes_list]; exact h8)
  have t9 : (o.toList == [110, 111, 98, 114]) = false := beq_eq_false_iff_ne.2 (by rw [bytes_list]; exact h9)
  have t10 : (o.toList == [98, 117, 116, 116, 111, 110]) = false := beq_eq_false_iff_ne.2 (by rw [bytes_list]; exact h10)
  clear h0 h1 h2 h3 h4 h5 h6 h7 h8 h9 h10
  have hh : ∀ (s : ByteArray) (bb : Bool), headNB s.data.toList = bb → Calls Tryz.prog 80 #[.string s] w fun e w' => e = .returned (.bool bb) ∧ w = w' := fun s bb e => by rw [← e]; exact isHeading_any s w
  cases ho : headNB o.data.toList with
  | false =>
    have HO := hide (hh o false ho)
    clear hh ho
    go_enter Tryz.func32, Tryz.ntmps32
    go_wp2_with fail
    refine HO.out.mono ?_
    rintro e w1 ⟨rfl, rfl⟩
    go_wp2_with fail
    go_ret
    exact ⟨rfl, rfl⟩
  | true =>
    have HO := hide (hh o true ho)
    obtain ⟨bb, hbb⟩ : ∃ bb, bb = headNB n.data.toList := ⟨_, rfl⟩
    have HN := hide (hh n bb hbb.symm)
    rw [← hbb]
    clear hh ho hbb
    go_enter Tryz.func32, Tryz.ntmps32
    go_wp2_with fail
    refine HO.out.mono ?_
    rintro e w1 ⟨rfl, rfl⟩
    go_wp2_with fail
    refine HN.out.mono ?_
    rintro e w1 ⟨rfl, rfl⟩
    go_wp2_with fail
    go_ret
    exact ⟨rfl, rfl⟩
end Go.Proofs.YtiejmkjpgjbodaaGreatDoor

namespace Go.Proofs.YtiejmkjpgjbodaaGreatDoor
open Go.RowKit
set_option linter.unusedVariables false
set_option linter.unusedSimpArgs false
set_option maxRecDepth 100000
def startW (h : NdH) : List UInt8 := 60 :: (h.name ++ (attrsW (escQ true) h.attrs ++ [62]))
def endW (h : NdH) : List UInt8 := 60 :: 47 :: (h.name ++ [62])
def rawK : Tr → List UInt8
  | .nil => []
  | .cons h _ R => (if h.name = [] then h.text else []) ++ rawK R
def rawB (n : List UInt8) : Bool := rawL.contains n
def serBg (s : List UInt8) (h : NdH) (K : Tr) : List UInt8 :=
  if h.name = [] then s ++ escQ false h.text else if voidB h.name = true then s ++ startW h else if rawB h.name = true then s ++ startW h ++ rawK K else s ++ startW h
def serEn (s : List UInt8) (h : NdH) : List UInt8 := if h.name = [] then s else if voidB h.name = true then s else s ++ endW h
def serDv (h : NdH) : Bool := elemB h && (!voidB h.name && !rawB h.name)
def writeT : Tr → List UInt8
  | .nil => []
  | .cons h K R => (if h.name = [] then escQ false h.text else if voidB h.name = true then startW h else startW h ++ ((if rawB h.name = true then rawK K else writeT K) ++ endW h)) ++ writeT R
theorem vis_write (T : Tr) (s : List UInt8) : vis serBg serEn serDv T s = s ++ writeT T := by
  induction T generalizing s with
  | nil => simp [vis, writeT]
  | cons h K R ihk ihr =>
    simp only [vis, writeT]
    by_cases hn : h.name = []
    · have e : serDv h = false := by simp [serDv, elemB, hn]
      simp [serBg, serEn, hn, e, ihr]
    · have e0 : elemB h = true := by simp [elemB, hn]
      by_cases hv : voidB h.name = true
      · have e : serDv h = false := by simp [serDv, hv]
        simp [serBg, serEn, hn, hv, e, ihr]
      · by_cases hr : rawB h.name = true
        · have e : serDv h = false := by simp [serDv, hr]
          simp [serBg, serEn, hn, hv, hr, e, ihr]
        · have e : serDv h = true := by simp [serDv, e0, hv, hr]
          simp [serBg, serEn, hn, hv, hr, e, ihk, ihr]
theorem serBg_le (s : List UInt8) (h : NdH) (K : Tr) : s.length ≤ (serBg s h K).length := by
  unfold serBg; repeat' split
  all_goals simp only [List.length_append]; omega
theorem serEn_le (s : List UInt8) (h : NdH) : s.length ≤ (serEn s h).length := by
  unfold serEn; repeat' split
  all_goals first | exact Nat.le_refl _ | (simp only [List.length_append]; omega)
def smallH (h : NdH) : Bool := fitT ⟨0, h.name, h.attrs, h.text⟩
theorem small_tok {h : NdH} (hs : smallH h = true) : fitT ⟨0, h.name, h.attrs, []⟩ = true := by
  unfold smallH fitT at *
  simp only [Bool.and_eq_true, decide_eq_true_eq] at *
  exact ⟨hs.1, Nat.zero_le _, hs.2.2⟩
def wideH (h : NdH) : Bool := wfitT ⟨0, h.name, h.attrs, h.text⟩
theorem wide_tok {h : NdH} (hs : wideH h = true) : wfitT ⟨0, h.name, h.attrs, []⟩ = true := by
  unfold wideH wfitT at *
  simp only [Bool.and_eq_true, decide_eq_true_eq] at *
  exact ⟨hs.1, Nat.zero_le _, hs.2.2⟩
theorem small_wide {h : NdH} (hs : smallH h = true) : wideH h = true := fitT_wide hs
theorem small_wides {T : Tr} (ha : T.all smallH = true) : T.all wideH = true := by
  induction T with
  | nil => rfl
  | cons h K R ihk ihr =>
    simp only [Tr.all, Bool.and_eq_true] at ha ⊢
    exact ⟨small_wide ha.1, ihk ha.2.1, ihr ha.2.2⟩
theorem tok_one (w : World) (k : Int) (h : NdH) (u : Value) (hA : AttrsIn w u h.attrs) (n : Nat) (hn : w.heap.size = n) :
    ToksIn (w.alloc (.cells #[.int .i64 k, .string (str h.name), u, .string ⟨#[]⟩] 51)) (.slice (some ⟨n, 0, none⟩) 1 1) [(k, ⟨0, h.name, h.attrs, []⟩)] := by
  subst hn
  obtain ⟨c0, c1, c2, c3⟩ := tok_row w (.int .i64 k) (.string (str h.name)) u (.string ⟨#[]⟩)
  refine .inr ⟨⟨w.heap.size, 0, none⟩, 1, rfl, Nat.le_refl _, by decide, fun j f hj => ?_⟩
  match j, hj with
  | 0, hj =>
    simp only [List.getElem?_cons_zero, Option.some.injEq] at hj
    subst hj
    exact ⟨c0, c1, c3, u, c2, hA.kept (below_one w _)⟩
  | j + 1, hj => simp at hj
set_option maxHeartbeats 8000000 in
theorem tag_any (k : Int) (h : NdH) (w : World) (hk : k = 2 ∨ k = 3) (A1 A2 : Option Addr) (n2 c1 c2 : Nat) (hA : AttrsIn w (.slice A1 h.attrs.length c1) h.attrs) (hs : wideH h = true) (hE : EnvX w) :
    Calls Tryz.prog 98 #[.int .i64 k, .agg #[.string (str h.name), .slice A1 h.attrs.length c1, .string (str h.text), .slice A2 n2 c2]] w fun e w' => e = .returned (.string (str (if k = 2 then startW h else endW h))) ∧ Below w.heap.size w w' := by
  have hbk := below_one w (Obj.cells #[.string (str h.name), .slice A1 h.attrs.length c1, .string (str h.text), .slice A2 n2 c2] 33)
  have hti := tok_one (w.alloc (Obj.cells #[.string (str h.name), .slice A1 h.attrs.length c1, .string (str h.text), .slice A2 n2 c2] 33)) k h _ (hA.kept hbk) (w.heap.size + 1) (World.size_alloc _ _)
  have hb2 := bl_one hbk (below_one _ (Obj.cells #[.int .i64 k, .string (str h.name), .slice A1 h.attrs.length c1, .string ⟨#[]⟩] 51))
  have HW := write_wide13 _ _ _ hti (by simp) (fun p hp => by rw [List.mem_singleton.1 hp]; exact wide_tok hs) (hE.kept hb2)
  have he : writeG [(k, (⟨0, h.name, h.attrs, []⟩ : TokL))] = if k = 2 then startW h else endW h := by
    have e1 : writeG [(k, (⟨0, h.name, h.attrs, []⟩ : TokL))] = tokG (k, ⟨0, h.name, h.attrs, []⟩) := by simp [writeG]
    rw [e1]
    rcases hk with rfl | rfl
    · rw [if_pos rfl]; exact tokG_start rfl
    · rw [if_neg (by decide)]; exact tokG_end rfl
  rw [he] at HW
  obtain ⟨R, hR⟩ : ∃ R, R = str (if k = 2 then startW h else endW h) := ⟨_, rfl⟩
  rw [← hR] at HW ⊢
  replace HW := hide HW
  have HB2 := hide hb2
  clear hbk hti hb2 he hA hE hR hk
  go_enter Tryz.func98, Tryz.ntmps98
  go_wp2_with fail
  refine HW.out.mono ?_
  rintro e w1 ⟨rfl, hb⟩
  have HB := hide (bl_one HB2.out hb)
  clear hb
  go_wp2_with fail
  go_ret
  exact ⟨rfl, HB.out⟩
set_option maxHeartbeats 8000000 in
theorem serEnd_any (B b : Nat) (s : List UInt8) (h : NdH) (W0 w : World) (A1 A2 : Option Addr) (n2 c1 c2 : Nat) (hi : Bld B b s W0 w) (hA : AttrsIn w (.slice A1 h.attrs.length c1) h.attrs) (hs : wideH h = true) (hE : EnvX w) (hm : (serEn s h).length ≤ 1000000000) :
    Calls Tryz.prog 56 #[.pointer (some ⟨b, 0, none⟩), .agg #[.string (str h.name), .slice A1 h.attrs.length c1, .string (str h.text), .slice A2 n2 c2]] w fun e w' => e = .returned (.tuple #[]) ∧ Bld B b (serEn s h) W0 w' ∧ KT w w' := by
  have hbk := below_one w (Obj.cells #[.string (str h.name), .slice A1 h.attrs.length c1, .string (str h.text), .slice A2 n2 c2] 33)
  have HIT := hide (isText_any h A1 A2 h.attrs.length c1 n2 c2 (w.alloc (Obj.cells #[.string (str h.name), .slice A1 h.attrs.length c1, .string (str h.text), .slice A2 n2 c2] 33)))
  have HTG : Hid (∀ w', Below w.heap.size w w' → Calls Tryz.prog 98 #[.int .i64 3, .agg #[.string (str h.name), .slice A1 h.attrs.length c1, .string (str h.text), .slice A2 n2 c2]] w' fun e w'' => e = .returned (.string (str (endW h))) ∧ Below w'.heap.size w' w'') := hide (fun w' hb => by
    have := tag_any 3 h w' (.inr rfl) A1 A2 n2 c1 c2 (hA.kept hb) hs (hE.kept hb)
    rwa [if_neg (by decide)] at this)
  have HVD : Hid (∀ w', Calls Tryz.prog 31 #[.string (str h.name)] w' fun e w'' => e = .returned (.bool (voidB h.name)) ∧ w' = w'') := hide (fun w' => by
    have := void14_any (str h.name) w'
    rw [str_toList] at this
    exact this)
  have HWS : Hid (∀ w', Below w.heap.size w w' → s.length + (endW h).length ≤ 1000000000 → Calls Tryz.prog 64 #[.pointer (some ⟨b, 0, none⟩), .string (str (endW h))] w' fun e w'' => e = .returned (.tuple #[.int .i64 (str (endW h)).size, .nilIface]) ∧ Bld B b (s ++ endW h) W0 w'' ∧ KT w w'') := hide (fun w' hb hl => by
    refine (writeStringT_any B b s (str (endW h)) W0 w' (hi.kept hb) (by rw [str_size]; omega)).mono ?_
    rintro e w2 ⟨rfl, h2, h3⟩
    rw [str_toList] at h2
    exact ⟨rfl, h2, (KT.below hb).trans h3⟩)
  have HI := hide hi
  have HM := hide hm
  have HBK := hide hbk
  obtain ⟨X, hX⟩ : ∃ X, X = str h.name := ⟨_, rfl⟩
  obtain ⟨Y, hY⟩ : ∃ Y, Y = str h.text := ⟨_, rfl⟩
  obtain ⟨E, hEE⟩ : ∃ E, E = str (endW h) := ⟨_, rfl⟩
  obtain ⟨W, hW⟩ : ∃ W, W = w.alloc (Obj.cells #[.string X, .slice A1 h.attrs.length c1, .string Y, .slice A2 n2 c2] 33) := ⟨_, rfl⟩
  have hcell : W.heap[w.heap.size]? = some (Obj.cells #[.string X, .slice A1 h.attrs.length c1, .string Y, .slice A2 n2 c2] 33 (0, 0)) := by rw [hW]; exact heap_alloc_new w _
  have hlt : w.heap.size < W.heap.size := by rw [hW, World.size_alloc]; omega
  rw [← hX, ← hY] at HIT HTG HBK ⊢
  rw [← hX] at HVD
  rw [← hEE] at HTG HWS
  rw [← hW] at HIT HBK
  have HCC := hide hcell
  have HLT := hide hlt
  have HWW := hide hW
  clear hi hm hA hs hE hbk hX hY hEE hcell hlt hW
  go_enter Tryz.func56, Tryz.ntmps56
  go_wp2_with fail
  rw [← HWW.out]
  refine HIT.out.mono ?_
  rintro e w1 ⟨rfl, hb1⟩
  have hcell := (hb1.block w.heap.size HLT.out).trans HCC.out
  have d0 : w1.cell? ⟨w.heap.size, 0, none⟩ = some (.string X) := (Lib.cell_of_heap hcell 0).trans rfl
  have d1 : w1.cell? ⟨w.heap.size, 1, none⟩ = some (.slice A1 h.attrs.length c1) := (Lib.cell_of_heap hcell 1).trans rfl
  have d2 : w1.cell? ⟨w.heap.size, 2, none⟩ = some (.string Y) := (Lib.cell_of_heap hcell 2).trans rfl
  have d3 : w1.cell? ⟨w.heap.size, 3, none⟩ = some (.slice A2 n2 c2) := (Lib.cell_of_heap hcell 3).trans rfl
  have HB1 := hide (bl_one HBK.out hb1)
  clear hcell hb1
  by_cases e : elemB h = false
  · rw [e]
    have hn : h.name = [] := by simpa [elemB] using e
    have HS : Hid (serEn s h = s) := hide (by simp [serEn, hn])
    clear hn e
    go_wp2_with fail
    go_end0
    exact ⟨rfl, by rw [HS.out]; exact HI.out.kept HB1.out, KT.below HB1.out⟩
  · replace e : elemB h = true := by simpa using e
    rw [e]
    have hn : h.name ≠ [] := by simpa [elemB] using e
    by_cases v : voidB h.name = true
    · have HS : Hid (serEn s h = s) := hide (by simp [serEn, hn, v])
      rw [v] at HVD
      clear hn e v
      go_wp2_with (go_at_call 31; refine (HVD.out _).mono ?_; rintro e w5 ⟨rfl, hw5⟩; subst hw5)
      go_end0
      exact ⟨rfl, by rw [HS.out]; exact HI.out.kept HB1.out, KT.below HB1.out⟩
    · have v0 : voidB h.name = false := by simpa using v
      have HS : Hid (serEn s h = s ++ endW h) := hide (by simp [serEn, hn, v0])
      rw [v0] at HVD
      clear hn e v v0
      go_wp2_with (go_at_call 31; refine (HVD.out _).mono ?_; rintro e w5 ⟨rfl, hw5⟩; subst hw5)
      refine (HTG.out _ HB1.out).mono ?_
      rintro e w3 ⟨rfl, hb3⟩
      have HB3 := hide (bl_one HB1.out hb3)
      clear hb3
      go_wp2_with fail
      refine (HWS.out _ HB3.out (by have := HM.out; rw [HS.out, List.length_append] at this; exact this)).mono ?_
      rintro e w4 ⟨rfl, h4⟩
      have H4 := hide h4
      clear h4
      go_wp2_with fail
      go_end0
      exact ⟨rfl, by rw [HS.out]; exact H4.out.1, H4.out.2⟩
def rawKl : List (NdH × Tr) → List UInt8
  | [] => []
  | p :: r => (if p.1.name = [] then p.1.text else []) ++ rawKl r
theorem rawK_list (T : Tr) : rawK T = rawKl T.list := by induction T with
  | nil => rfl
  | cons h K R _ ih => simp only [rawK, Tr.list, rawKl, ih]
theorem rawKl_snoc (l : List (NdH × Tr)) (p : NdH × Tr) : rawKl (l ++ [p]) = rawKl l ++ (if p.1.name = [] then p.1.text else []) := by induction l with
  | nil => simp [rawKl]
  | cons q r ih => simp only [List.cons_append, rawKl, ih, List.append_assoc]
theorem rawKl_le (l : List (NdH × Tr)) (k : Nat) : (rawKl (l.take k)).length ≤ (rawKl l).length := by induction l generalizing k with
  | nil => simp
  | cons p r ih => cases k with
    | zero => simp [rawKl]
    | succ k => simp only [List.take_succ_cons, rawKl, List.length_append]; have := ih k; omega
set_option maxHeartbeats 8000000 in
theorem writeRaw_any (B b : Nat) (s : List UInt8) (W0 w : World) (v : Value) (T : Tr) (hi : Bld B b s W0 w) (hT : NodesC (fun b => b < B) w v T) (hn : T.len ≤ 1000000) (hm : (s ++ rawK T).length ≤ 1000000000) :
    Calls Tryz.prog 100 #[.pointer (some ⟨b, 0, none⟩), v] w fun e w' => e = .returned (.tuple #[]) ∧ Bld B b (s ++ rawK T) W0 w' ∧ KT w w' := by
  obtain ⟨A, c, rfl⟩ := hT.form
  rw [rawK_list] at hm ⊢
  have HT := hide hT
  have HM := hide hm
  have HI := hide hi
  clear hT hm hi
  go_enter Tryz.func100, Tryz.ntmps100
  go_wp2_with fail
  go_loopw [8] (fun i wr => ∃ k : Nat, k ≤ T.len ∧ i = .int .i64 k ∧ Hid (Bld B b (s ++ rawKl (T.list.take k)) w wr) ∧ Hid (KT w wr)) (fun i _ => T.len - (intOf i).toNat)
  case atStart => exact ⟨0, Nat.zero_le _, rfl, hide (by rw [List.take_zero, rawKl, List.append_nil]; exact ⟨HI.out.1, Below.refl _ _, HI.out.2.2⟩), hide (KT.refl _)⟩
  case round =>
    obtain ⟨k, hk, rfl, HB, HK⟩ := hrel
    by_cases hlt : k < T.len
    · obtain ⟨⟨f, K⟩, hf⟩ : ∃ f, T.list[k]? = some f := ⟨_, List.getElem?_eq_getElem (by rw [Tr.len_list]; exact hlt)⟩
      have hI1 := NodesC.mono HT.out (same_below HB.out.2.1) (fun _ x => x)
      obtain ⟨a, d, x, y, z, m, ha, -, p1, p2, hA, p3, p4, hm, hK⟩ := NodesC.at hI1 k f K hf
      subst ha hm
      have hsn : rawKl (T.list.take (k + 1)) = rawKl (T.list.take k) ++ (if f.name = [] then f.text else []) := by rw [List.take_add_one, hf]; exact rawKl_snoc _ _
      have hle := rawKl_le T.list (k + 1)
      have HSN := hide hsn
      have HLE := hide hle
      clear hsn hle hA hK hI1 hf
      go_wp2_with fail
      refine (isText_any f d x _ _ _ _ _).mono ?_
      rintro e w1 ⟨rfl, hb1⟩
      have hb := bl_one (below_one wr _) hb1
      have hcell := (hb1.block wr.heap.size (by rw [World.size_alloc]; omega)).trans (heap_alloc_new wr _)
      have d2 : w1.cell? ⟨wr.heap.size, 2, none⟩ = some (.string (str f.text)) := (Lib.cell_of_heap hcell 2).trans rfl
      obtain ⟨Y, hY⟩ : ∃ Y, Y = str f.text := ⟨_, rfl⟩
      have hYl : Y.data.toList = f.text := by rw [hY, str_toList]
      rw [← hY] at d2
      obtain ⟨X, hX⟩ : ∃ X, X = str f.name := ⟨_, rfl⟩
      rw [← hY, ← hX]
      have HB1 := hide (HB.out.kept hb)
      have HK1 := hide (HK.out.trans (KT.below hb))
      clear hcell hb1 hb hX hY
      by_cases e : elemB f = false
      · rw [e]
        have hn : f.name = [] := by simpa [elemB] using e
        have hsn := HSN.out
        rw [if_pos hn] at hsn
        have hl : (s ++ rawKl (T.list.take k)).length + Y.size ≤ 140737488355328 := by
          have h1 := HLE.out
          have h2 := HM.out
          rw [hsn, List.length_append, ← hYl, toList_length] at h1
          rw [List.length_append] at h2
          rw [List.length_append]; omega
        have HWS := hide (writeStringT_any B b (s ++ rawKl (T.list.take k)) Y w w1 HB1.out hl)
        rw [hYl, List.append_assoc, ← hsn] at HWS
        clear hn e hsn hl hYl HSN HLE
        go_wp2_with fail
        refine HWS.out.mono ?_
        rintro e w2 ⟨rfl, hb2, hk2⟩
        have HB2 := hide hb2
        have HK2 := hide (HK1.out.trans hk2)
        clear hb2 hk2
        go_wp2_with fail
        go_roundw
        case rel => exact ⟨k + 1, by omega, by go_num, HB2, HK2⟩
        case measure => simp [intOf]; omega
      · replace e : elemB f = true := by simpa using e
        rw [e]
        have hn : f.name ≠ [] := by simpa [elemB] using e
        have hsn := HSN.out
        rw [if_neg hn, List.append_nil] at hsn
        rw [← hsn] at HB1
        clear hn e hsn hYl HSN HLE
        go_wp2_with fail
        go_roundw
        case rel => exact ⟨k + 1, by omega, by go_num, HB1, HK1⟩
        case measure => simp [intOf]; omega
    · obtain rfl : k = T.len := by omega
      have HB2 := HB.out
      rw [← Tr.len_list, List.take_length] at HB2
      replace HB2 := hide HB2
      go_wp2_with fail
      go_end0
      exact ⟨rfl, ⟨HB2.out.1, HI.out.2.1.trans HB2.out.2.1, HB2.out.2.2⟩, HK.out⟩
set_option maxHeartbeats 8000000 in
theorem serBegin_any (B b : Nat) (s : List UInt8) (h : NdH) (K : Tr) (W0 w : World) (A1 A2 : Option Addr) (n2 c1 c2 : Nat) (hi : Bld B b s W0 w) (hA : AttrsIn w (.slice A1 h.attrs.length c1) h.attrs) (hK : NodesC (fun b => b < B) w (.slice A2 n2 c2) K) (hkl : K.len ≤ 1000000) (hs : wideH h = true) (hE : EnvX w) (hm : (serBg s h K).length ≤ 1000000000) :
    Calls Tryz.prog 54 #[.pointer (some ⟨b, 0, none⟩), .agg #[.string (str h.name), .slice A1 h.attrs.length c1, .string (str h.text), .slice A2 n2 c2]] w fun e w' => e = .returned (if serDv h = true then .slice A2 n2 c2 else .slice none 0 0) ∧ Bld B b (serBg s h K) W0 w' ∧ KT w w' := by
  have hbk := below_one w (Obj.cells #[.string (str h.name), .slice A1 h.attrs.length c1, .string (str h.text), .slice A2 n2 c2] 33)
  have HIT := hide (isText_any h A1 A2 h.attrs.length c1 n2 c2 (w.alloc (Obj.cells #[.string (str h.name), .slice A1 h.attrs.length c1, .string (str h.text), .slice A2 n2 c2] 33)))
  have HTG : Hid (∀ w', Below w.heap.size w w' → Calls Tryz.prog 98 #[.int .i64 2, .agg #[.string (str h.name), .slice A1 h.attrs.length c1, .string (str h.text), .slice A2 n2 c2]] w' fun e w'' => e = .returned (.string (str (startW h))) ∧ Below w'.heap.size w' w'') := hide (fun w' hb => by
    have := tag_any 2 h w' (.inl rfl) A1 A2 n2 c1 c2 (hA.kept hb) hs (hE.kept hb)
    rwa [if_pos rfl] at this)
  have HVD : Hid (∀ w', Calls Tryz.prog 31 #[.string (str h.name)] w' fun e w'' => e = .returned (.bool (voidB h.name)) ∧ w' = w'') := hide (fun w' => by
    have := void14_any (str h.name) w'
    rw [str_toList] at this
    exact this)
  have HRW : Hid (∀ w', Calls Tryz.prog 99 #[.string (str h.name)] w' fun e w'' => e = .returned (.bool (rawB h.name)) ∧ w' = w'') := hide (fun w' => by
    have := rawW_any (str h.name) w'
    rw [str_toList] at this
    exact this)
  have HTX : Hid (∀ w', Below w.heap.size w w' → Calls Tryz.prog 97 #[.string (str h.text)] w' fun e w'' => e = .returned (.string (str (escQ false h.text))) ∧ Below w'.heap.size w' w'') := hide (fun w' hb => by
    have := entText_any (str h.text) w' (by
      have h2 := hs
      unfold wideH wfitT at h2
      simp only [Bool.and_eq_true, decide_eq_true_eq] at h2
      rw [str_size]; omega)
    rw [str_toList] at this
    exact this)
  have HWS : Hid (∀ (x : List UInt8) w', Below w.heap.size w w' → s.length + x.length ≤ 1000000000 → Calls Tryz.prog 64 #[.pointer (some ⟨b, 0, none⟩), .string (str x)] w' fun e w'' => e = .returned (.tuple #[.int .i64 (str x).size, .nilIface]) ∧ Bld B b (s ++ x) w w'' ∧ KT w' w'') := hide (fun x w' hb hl => by
    have hi2 := hi.kept hb
    refine (writeStringT_any B b s (str x) w w' ⟨hi2.1, hb.mono hi.2.2, hi2.2.2⟩ (by rw [str_size]; omega)).mono ?_
    rintro e w2 ⟨rfl, h2, h3⟩
    rw [str_toList] at h2
    exact ⟨rfl, h2, h3⟩)
  have HWR : Hid (∀ (x : List UInt8) w', Bld B b x w w' → (x ++ rawK K).length ≤ 1000000000 → Calls Tryz.prog 100 #[.pointer (some ⟨b, 0, none⟩), .slice A2 n2 c2] w' fun e w'' => e = .returned (.tuple #[]) ∧ Bld B b (x ++ rawK K) w w'' ∧ KT w' w'') := hide (fun x w' hb hl =>
    writeRaw_any B b x w w' _ K hb (NodesC.mono hK (same_below hb.2.1) (fun _ z => z)) hkl hl)
  have HI := hide hi
  have HM := hide hm
  have HBK := hide hbk
  obtain ⟨X, hX⟩ : ∃ X, X = str h.name := ⟨_, rfl⟩
  obtain ⟨Y, hY⟩ : ∃ Y, Y = str h.text := ⟨_, rfl⟩
  obtain ⟨S, hS⟩ : ∃ S, S = str (startW h) := ⟨_, rfl⟩
  obtain ⟨Q, hQ⟩ : ∃ Q, Q = str (escQ false h.text) := ⟨_, rfl⟩
  obtain ⟨R, hR⟩ : ∃ R, R = (if serDv h = true then Value.slice A2 n2 c2 else .slice none 0 0) := ⟨_, rfl⟩
  obtain ⟨W, hW⟩ : ∃ W, W = w.alloc (Obj.cells #[.string X, .slice A1 h.attrs.length c1, .string Y, .slice A2 n2 c2] 33) := ⟨_, rfl⟩
  have hcell : W.heap[w.heap.size]? = some (Obj.cells #[.string X, .slice A1 h.attrs.length c1, .string Y, .slice A2 n2 c2] 33 (0, 0)) := by rw [hW]; exact heap_alloc_new w _
  have hlt : w.heap.size < W.heap.size := by rw [hW, World.size_alloc]; omega
  rw [← hR]
  rw [← hX, ← hY] at HIT HTG HBK
  rw [← hX, ← hY]
  rw [← hX] at HVD HRW
  rw [← hY, ← hQ] at HTX
  rw [← hS] at HTG
  rw [← hW] at HIT HBK
  have HWS1 := hide (HWS.out (startW h))
  have HWS2 := hide (HWS.out (escQ false h.text))
  rw [← hS] at HWS1
  rw [← hQ] at HWS2
  have HCC := hide hcell
  have HLT := hide hlt
  have HWW := hide hW
  have HRR := hide hR
  clear hi hm hA hs hE hbk hX hY hS hQ hcell hlt hW hR HWS hK hkl
  go_enter Tryz.func54, Tryz.ntmps54
  go_wp2_with fail
  rw [← HWW.out]
  refine HIT.out.mono ?_
  rintro e w1 ⟨rfl, hb1⟩
  have hk1 := KT.below hb1
  have hcell := (hk1 _ _ _ _ HCC.out (by decide) (by decide)).trans HCC.out
  have d0 : w1.cell? ⟨w.heap.size, 0, none⟩ = some (.string X) := (Lib.cell_of_heap hcell 0).trans rfl
  have d1 : w1.cell? ⟨w.heap.size, 1, none⟩ = some (.slice A1 h.attrs.length c1) := (Lib.cell_of_heap hcell 1).trans rfl
  have d2 : w1.cell? ⟨w.heap.size, 2, none⟩ = some (.string Y) := (Lib.cell_of_heap hcell 2).trans rfl
  have d3 : w1.cell? ⟨w.heap.size, 3, none⟩ = some (.slice A2 n2 c2) := (Lib.cell_of_heap hcell 3).trans rfl
  have HB1 := hide (bl_one HBK.out hb1)
  have HCC1 := hide hcell
  clear hcell hb1 hk1
  by_cases e : elemB h = false
  · rw [e]
    have hn : h.name = [] := by simpa [elemB] using e
    have HS : Hid (serBg s h K = s ++ escQ false h.text) := hide (by simp [serBg, hn])
    have HD : Hid (serDv h = false) := hide (by simp [serDv, e])
    clear hn e
    go_wp2_with fail
    refine (HTX.out _ HB1.out).mono ?_
    rintro e w2 ⟨rfl, hb2⟩
    have HB2 := hide (bl_one HB1.out hb2)
    clear hb2
    go_wp2_with fail
    refine (HWS2.out _ HB2.out (by have := HM.out; rw [HS.out, List.length_append] at this; exact this)).mono ?_
    rintro e w3 ⟨rfl, h3, h4⟩
    have H3 := hide h3
    have H4 := hide ((KT.below HB2.out).trans h4)
    clear h3 h4
    go_wp2_with fail
    go_ret
    exact ⟨by rw [HRR.out, HD.out]; rfl, by rw [HS.out]; exact ⟨H3.out.1, HI.out.2.1.trans H3.out.2.1, H3.out.2.2⟩, H4.out⟩
  · replace e : elemB h = true := by simpa using e
    rw [e]
    have hn : h.name ≠ [] := by simpa [elemB] using e
    have HSL : Hid (s.length + (startW h).length ≤ 1000000000) := hide (by
      have := HM.out
      unfold serBg at this
      rw [if_neg hn] at this
      repeat' split at this
      all_goals (simp only [List.length_append] at this; omega))
    go_wp2_with fail
    refine (HTG.out _ HB1.out).mono ?_
    rintro e w2 ⟨rfl, hb2⟩
    have HB2 := hide (bl_one HB1.out hb2)
    have HK2 := hide (KT.below hb2)
    clear hb2
    go_wp2_with fail
    refine (HWS1.out _ HB2.out HSL.out).mono ?_
    rintro e w3 ⟨rfl, h3, h4⟩
    have hcell := ((HK2.out.trans h4) _ _ _ _ HCC1.out (by decide) (by decide)).trans HCC1.out
    have e0 : w3.cell? ⟨w.heap.size, 0, none⟩ = some (.string X) := (Lib.cell_of_heap hcell 0).trans rfl
    have e3 : w3.cell? ⟨w.heap.size, 3, none⟩ = some (.slice A2 n2 c2) := (Lib.cell_of_heap hcell 3).trans rfl
    have H3 := hide h3
    have H4 := hide ((KT.below HB2.out).trans h4)
    clear h3 h4 hcell
    by_cases v : voidB h.name = true
    · have HS : Hid (serBg s h K = s ++ startW h) := hide (by simp [serBg, hn, v])
      have HD : Hid (serDv h = false) := hide (by simp [serDv, v])
      rw [v] at HVD
      clear hn e v
      go_wp2_with (go_at_call 31; refine (HVD.out _).mono ?_; rintro e w5 ⟨rfl, hw5⟩; subst hw5)
      go_ret
      exact ⟨by rw [HRR.out, HD.out]; rfl, by rw [HS.out]; exact ⟨H3.out.1, HI.out.2.1.trans H3.out.2.1, H3.out.2.2⟩, H4.out⟩
    · have v0 : voidB h.name = false := by simpa using v
      rw [v0] at HVD
      by_cases r : rawB h.name = true
      · have HS : Hid (serBg s h K = s ++ startW h ++ rawK K) := hide (by simp [serBg, hn, v0, r])
        have HD : Hid (serDv h = false) := hide (by simp [serDv, r])
        rw [r] at HRW
        clear hn e v v0 r
        go_wp2_with (first
          | (go_at_call 31; refine (HVD.out _).mono ?_; rintro e w5 ⟨rfl, hw5⟩; subst hw5)
          | (go_at_call 99; refine (HRW.out _).mono ?_; rintro e w5 ⟨rfl, hw5⟩; subst hw5)
          | (go_at_call 100; refine (HWR.out _ _ H3.out (by have := HM.out; rw [HS.out] at this; exact this)).mono ?_; rintro e w6 ⟨rfl, h5, h6⟩; have H5 := hide h5; have H6 := hide (H4.out.trans h6); clear h5 h6))
        go_ret
        exact ⟨by rw [HRR.out, HD.out]; rfl, by rw [HS.out]; exact ⟨H5.out.1, HI.out.2.1.trans H5.out.2.1, H5.out.2.2⟩, H6.out⟩
      · have r0 : rawB h.name = false := by simpa using r
        have HS : Hid (serBg s h K = s ++ startW h) := hide (by simp [serBg, hn, v0, r0])
        have HD : Hid (serDv h = true) := hide (by simp [serDv, e, v0, r0])
        rw [r0] at HRW
        clear hn e v v0 r r0
        go_wp2_with (first
          | (go_at_call 31; refine (HVD.out _).mono ?_; rintro e w5 ⟨rfl, hw5⟩; subst hw5)
          | (go_at_call 99; refine (HRW.out _).mono ?_; rintro e w5 ⟨rfl, hw5⟩; subst hw5))
        go_ret
        exact ⟨by rw [HRR.out, HD.out]; rfl, by rw [HS.out]; exact ⟨H3.out.1, HI.out.2.1.trans H3.out.2.1, H3.out.2.2⟩, H4.out⟩
set_option maxHeartbeats 4000000 in
theorem wr_beg (W0 : World) (hE : EnvX W0) : BegOK W0.heap.size 53 #[.pointer (some ⟨W0.heap.size, 0, none⟩)] (fun s w => Bld W0.heap.size W0.heap.size s W0 w) serBg serDv List.length 1000000000 (fun h K => wideH h = true ∧ K.len ≤ 1000000) := by
  intro s w h K av A m c hi hB hG ha hk hm
  obtain ⟨A1, c1, rfl⟩ := ha.1.form
  show Calls Tryz.prog _ #[ndV h _ _, .pointer (some ⟨W0.heap.size, 0, none⟩)] w _
  unfold ndV
  obtain ⟨R, hR⟩ : ∃ R, R = (if serDv h = true then Value.slice A m c else Value.slice none 0 0) := ⟨_, rfl⟩
  have hbk := below_one w (Obj.cells #[.string (str h.name), .slice A1 h.attrs.length c1, .string (str h.text), .slice A m c] 33)
  have hi1 := hi.kept hbk
  have hb := serBegin_any W0.heap.size W0.heap.size s h K w _ A1 A m c1 c ⟨hi1.1, hbk.mono hB, hi1.2.2⟩ (ha.1.kept hbk) (NodesC.mono hk (same_below (hbk.mono hB)) (fun _ x => x)) hG.2 hG.1 (hE.kept hi1.2.1) hm
  rw [← hR] at hb ⊢
  have HB := hide hb
  have HI := hide hi
  have HK := hide (KT.below hbk)
  clear hi hB hG ha hk hm hR hE hb hbk hi1
  go_enter Tryz.func53, Tryz.ntmps53
  go_wp2_with fail
  refine HB.out.mono ?_
  rintro e w1 ⟨rfl, h1, h2⟩
  have H1 := hide h1
  have H2 := hide (HK.out.trans h2)
  clear h1 h2
  go_wp2_with fail
  go_ret
  exact ⟨rfl, ⟨H1.out.1, HI.out.2.1.trans H1.out.2.1, H1.out.2.2⟩, frl_kt H1.out.2.1 H2.out⟩
def serEn2 (s : List UInt8) (h : NdH) : List UInt8 := if wideH h = true then serEn s h else s ++ List.replicate 1000000001 0
theorem serEn2_le (s : List UInt8) (h : NdH) : s.length ≤ (serEn2 s h).length := by
  unfold serEn2; split
  · exact serEn_le s h
  · rw [List.length_append]; omega
theorem serEn2_wide {s : List UInt8} {h : NdH} (hm : (serEn2 s h).length ≤ 1000000000) : wideH h = true ∧ serEn2 s h = serEn s h := by
  by_cases hs : wideH h = true
  · exact ⟨hs, by unfold serEn2; rw [if_pos hs]⟩
  · exfalso
    unfold serEn2 at hm
    rw [if_neg hs, List.length_append, List.length_replicate] at hm
    omega
theorem vis_write2 (T : Tr) (s : List UInt8) (ha : T.all wideH = true) : vis serBg serEn2 serDv T s = s ++ writeT T := by
  rw [← vis_write T s]
  induction T generalizing s with
  | nil => rfl
  | cons h K R ihk ihr =>
    simp only [Tr.all, Bool.and_eq_true] at ha
    have e : ∀ x, serEn2 x h = serEn x h := fun x => by unfold serEn2; rw [if_pos ha.1]
    simp only [vis, e, ihr _ ha.2.2, ihk _ ha.2.1]
theorem ev_wide (T : Tr) (ha : T.all wideH = true) (hc : T.count ≤ 1000000) : T.ev (fun h K => wideH h = true ∧ K.len ≤ 1000000) := by
  induction T with
  | nil => trivial
  | cons h K R ihk ihr =>
    simp only [Tr.all, Bool.and_eq_true] at ha
    simp only [Tr.count] at hc
    exact ⟨⟨ha.1, Nat.le_trans (Tr.len_count K) (by omega)⟩, ihk ha.2.1 (by omega), ihr ha.2.2 (by omega)⟩
set_option maxHeartbeats 4000000 in
theorem wr_end (W0 : World) (hE : EnvX W0) : EndOK W0.heap.size 55 #[.pointer (some ⟨W0.heap.size, 0, none⟩)] (fun s w => Bld W0.heap.size W0.heap.size s W0 w) serEn2 List.length 1000000000 := by
  intro s w h K av kv hi hB ha hk hm0
  obtain ⟨hsm, he2⟩ := serEn2_wide hm0
  rw [he2] at hm0
  have hm := hm0
  rw [he2]
  obtain ⟨A1, c1, rfl⟩ := ha.1.form
  obtain ⟨A2, c2, rfl⟩ := hk.form
  show Calls Tryz.prog _ #[ndV h _ _, .pointer (some ⟨W0.heap.size, 0, none⟩)] w _
  unfold ndV
  have hbk := below_one w (Obj.cells #[.string (str h.name), .slice A1 h.attrs.length c1, .string (str h.text), .slice A2 K.len c2] 33)
  have hi1 := hi.kept hbk
  have hb := serEnd_any W0.heap.size W0.heap.size s h w _ A1 A2 K.len c1 c2 ⟨hi1.1, hbk.mono hB, hi1.2.2⟩ (ha.1.kept hbk) hsm (hE.kept hi1.2.1) hm
  have HB := hide hb
  have HI := hide hi
  have HK := hide (KT.below hbk)
  clear hi hB ha hk hm hm0 hsm he2 hE hb hbk hi1
  go_enter Tryz.func55, Tryz.ntmps55
  go_wp2_with fail
  refine HB.out.mono ?_
  rintro e w1 ⟨rfl, h1, h2⟩
  have H1 := hide h1
  have H2 := hide (HK.out.trans h2)
  clear h1 h2
  go_wp2_with fail
  go_end0
  exact ⟨rfl, ⟨H1.out.1, HI.out.2.1.trans H1.out.2.1, H1.out.2.2⟩, frl_kt H1.out.2.1 H2.out⟩
set_option maxHeartbeats 4000000 in
theorem serWriteW_any (v : Value) (T : Tr) (w : World) (hE : EnvX w) (hT : NodesIn w v T) (ha : T.all wideH = true) (hc : T.count ≤ 1000000) (hl : (writeT T).length ≤ 1000000000) :
    Calls Tryz.prog 21 #[v] w fun e w' => e = .returned (.string (str (writeT T))) ∧ Below w.heap.size w w' := by
  have hbk := below_one w (Obj.cells #[.pointer none, .slice none 0 0] 78)
  have hnew : Bld w.heap.size w.heap.size [] w (w.alloc (Obj.cells #[.pointer none, .slice none 0 0] 78)) := Bld.new (Below.refl _ _) (Nat.le_refl _)
  have HB := hide (walk_gen w.heap.size 53 55 #[.pointer (some ⟨w.heap.size, 0, none⟩)] #[.pointer (some ⟨w.heap.size, 0, none⟩)] (enters_of Tryz.func53 (by kernel_rfl) rfl) (enters_of Tryz.func55 (by kernel_rfl) rfl) (fun s w' => Bld w.heap.size w.heap.size s w w') serBg serEn2 serDv List.length 1000000000 (fun h K => wideH h = true ∧ K.len ≤ 1000000) serBg_le serEn2_le (bld_inv _ _ _) (wr_beg w hE) (wr_end w hE) v T [] (w.alloc (Obj.cells #[.pointer none, .slice none 0 0] 78)) (NodesC.mono hT (same_below hbk) (fun _ x => x)) (ev_wide T ha hc) hc (by rw [vis_write2 T [] ha, List.nil_append]; exact hl) hnew hbk.size)
  rw [vis_write2 T [] ha, List.nil_append] at HB
  obtain ⟨A, c, rfl⟩ := NodesC.form hT
  have hmf : ∀ (fn : Fn) (first cap : Array Value) (w : World), (Instr.makeFunc fn first cap).run Tryz.prog w = .ok (.func fn first cap) w := fun _ _ _ _ => rfl
  clear hT hbk hnew ha hE
  go_enter Tryz.func21, Tryz.ntmps21
  go_wp2_with fail
  refine HB.out.mono ?_
  rintro e w1 ⟨rfl, h1, h2⟩
  have HS := hide h1.string
  clear h1 h2
  go_wp2_with fail
  refine HS.out.mono ?_
  rintro e w2 ⟨rfl, h3⟩
  have H3 := hide h3
  clear h3
  go_wp2_with fail
  go_ret
  exact ⟨rfl, H3.out⟩
theorem serWrite_any (v : Value) (T : Tr) (w : World) (hE : EnvX w) (hT : NodesIn w v T) (ha : T.all smallH = true) (hc : T.count ≤ 1000000) (hl : (writeT T).length ≤ 1000000000) :
    Calls Tryz.prog 21 #[v] w fun e w' => e = .returned (.string (str (writeT T))) ∧ Below w.heap.size w w' :=
  serWriteW_any v T w hE hT (small_wides ha) hc hl
end Go.Proofs.YtiejmkjpgjbodaaGreatDoor

namespace Go.Proofs.YtiejmkjpgjbodaaGreatDoor
open Go.RowKit
set_option linter.unusedVariables false
set_option linter.unusedSimpArgs false
set_option maxRecDepth 100000
theorem below_of13 {w w' : World} (h : ∃ m, w' = w.drewN m) : Below w.heap.size w w' := by
  obtain ⟨m, rfl⟩ := h
  exact ⟨rfl, rfl, rfl, Nat.le_refl _, fun _ _ => rfl⟩
theorem drew_on {w w' : World} (h : ∃ m, w' = w.drewN m) (n : Nat) : ∃ m, w'.drewN n = w.drewN m := by
  obtain ⟨m, rfl⟩ := h
  exact ⟨m + n, by rw [World.drewN_drewN]⟩
set_option maxHeartbeats 2000000 in
theorem sameAttrs_any (v1 v2 : Value) (l1 l2 : List AtL) (w : World) (h1 : AttrsIn w v1 l1) (h2 : AttrsIn w v2 l2) (hn : l1.length ≤ 1048576) :
    Calls Tryz.prog 46 #[v1, v2] w fun e w' => e = .returned (.bool (decide (l1 = l2))) ∧ ∃ m, w' = w.drewN m := by
  obtain ⟨A1, c1, rfl⟩ := h1.form
  obtain ⟨A2, c2, rfl⟩ := h2.form
  have H1 := hide h1
  have H2 := hide h2
  clear h1 h2
  by_cases hl : l1.length = l2.length
  · have t0 : ((l1.length : Int) == l2.length) = true := by rw [beq_iff_eq]; omega
    have t1 : ((l1.length : Int) != l2.length) = false := by rw [bne, t0]; rfl
    go_enter Tryz.func46, Tryz.ntmps46
    go_wp2_with fail
    go_loopw [5] (fun i wr => ∃ k : Nat, k ≤ l1.length ∧ i = .int .i64 k ∧ Hid (∃ m, wr = w.drewN m) ∧ Hid (l1.take k = l2.take k)) (fun i _ => l1.length - (intOf i).toNat)
    case atStart => exact ⟨0, Nat.zero_le _, rfl, hide ⟨0, rfl⟩, hide rfl⟩
    case round =>
      obtain ⟨k, hk, rfl, HB, HG⟩ := hrel
      by_cases hlt : k < l1.length
      · obtain ⟨f, hf⟩ : ∃ f, l1[k]? = some f := ⟨_, List.getElem?_eq_getElem hlt⟩
        obtain ⟨g, hg⟩ : ∃ g, l2[k]? = some g := ⟨_, List.getElem?_eq_getElem (by omega)⟩
        obtain ⟨a, ha, hc1, hc2⟩ := (H1.out.kept (below_of13 HB.out)).at k f hf
        obtain ⟨b, hb, hd1, hd2⟩ := (H2.out.kept (below_of13 HB.out)).at k g hg
        subst ha hb
        have hlt2 : k < l2.length := by omega
        obtain ⟨X1, hX1⟩ : ∃ X, X = str f.1 := ⟨_, rfl⟩
        obtain ⟨X2, hX2⟩ : ∃ X, X = str f.2 := ⟨_, rfl⟩
        obtain ⟨Y1, hY1⟩ : ∃ X, X = str g.1 := ⟨_, rfl⟩
        obtain ⟨Y2, hY2⟩ : ∃ X, X = str g.2 := ⟨_, rfl⟩
        rw [← hX1] at hc1
        rw [← hX2] at hc2
        rw [← hY1] at hd1
        rw [← hY2] at hd2
        by_cases he : f = g
        · have e1 : X1 = Y1 := by rw [hX1, hY1, he]
          have e2 : X2 = Y2 := by rw [hX2, hY2, he]
          subst e1 e2
          have HN : Hid (l1.take (k + 1) = l2.take (k + 1)) := hide (by rw [List.take_add_one, List.take_add_one, HG.out, hf, hg, he])
          clear he hf hg hX1 hX2 hY1 hY2
          go_wp2_with fail
          go_quiet (fail)
          go_wp2_with fail
          go_roundw
          case rel => exact ⟨k + 1, by omega, by go_num, hide (drew_on HB.out nq), HN⟩
          case measure => simp [intOf]; omega
        · have HD : Hid (decide (l1 = l2) = false) := hide (decide_eq_false (fun e => he (by rw [e, hg] at hf; exact (Option.some.inj hf).symm)))
          by_cases he1 : f.1 = g.1
          · have he2 : f.2 ≠ g.2 := fun e => he (Prod.ext he1 e)
            have e1 : X1 = Y1 := by rw [hX1, hY1, he1]
            have t2 : (X2.toList == Y2.toList) = false := by
              rw [hX2, hY2, bytes_list, bytes_list, str_toList, str_toList]; exact beq_eq_false_iff_ne.2 he2
            subst e1
            clear he he1 he2 hf hg hX1 hX2 hY1 hY2
            go_wp2_with fail
            go_quiet (fail)
            go_wp2_with fail
            go_ret
            exact ⟨ret_bool HD.out.symm, drew_on HB.out nq⟩
          · have t2 : (X1.toList == Y1.toList) = false := by
              rw [hX1, hY1, bytes_list, bytes_list, str_toList, str_toList]; exact beq_eq_false_iff_ne.2 he1
            clear he he1 hf hg hX1 hX2 hY1 hY2
            go_wp2_with fail
            go_quiet (fail)
            go_wp2_with fail
            go_ret
            exact ⟨ret_bool HD.out.symm, drew_on HB.out nq⟩
      · have HD : Hid (decide (l1 = l2) = true) := hide (by
          have := HG.out
          rw [List.take_of_length_le (by omega), List.take_of_length_le (by omega)] at this
          exact decide_eq_true this)
        go_wp2_with fail
        go_ret
        exact ⟨ret_bool HD.out.symm, HB.out⟩
  · have t0 : ((l1.length : Int) == l2.length) = false := by rw [beq_eq_false_iff_ne]; omega
    have t1 : ((l1.length : Int) != l2.length) = true := by rw [bne, t0]; rfl
    have HD : Hid (decide (l1 = l2) = false) := hide (decide_eq_false (fun e => hl (by rw [e])))
    clear hl
    go_enter Tryz.func46, Tryz.ntmps46
    go_wp2_with fail
    go_ret
    exact ⟨ret_bool HD.out.symm, 0, rfl⟩
end Go.Proofs.YtiejmkjpgjbodaaGreatDoor

namespace Go.Proofs.YtiejmkjpgjbodaaGreatDoor
open Go.RowKit
set_option linter.unusedVariables false
set_option linter.unusedSimpArgs false
set_option maxRecDepth 100000
def attrsFew (p : NdH) : Bool := decide (p.attrs.length ≤ 1048576)
def SameP (N : Nat) : Prop := ∀ (v1 v2 : Value) (t1 t2 : Tr) (w : World), t1.count < N → N ≤ 1048576 → NodesIn w v1 t1 → NodesIn w v2 t2 → t1.all attrsFew = true →
    Calls Tryz.prog 14 #[v1, v2] w fun e w' => e = .returned (.bool (decide (t1 = t2))) ∧ ∃ m, w' = w.drewN m
set_option maxHeartbeats 8000000 in
theorem same14_step (n : Nat) (IH : SameP n) : SameP (n + 1) := by
  intro v1 v2 t1 t2 w hn hN h1 h2 ha
  have hn1 : t1.len ≤ 1048576 := Nat.le_trans (Tr.len_count t1) (by omega)
  obtain ⟨A1, c1, rfl⟩ := NodesC.form h1
  obtain ⟨A2, c2, rfl⟩ := NodesC.form h2
  have H1 := hide h1
  have H2 := hide h2
  have HAL := hide ha
  have HIH := hide IH
  clear h1 h2 ha IH
  by_cases hl : t1.len = t2.len
  · have t0 : ((t1.len : Int) == t2.len) = true := by rw [beq_iff_eq]; omega
    have t1x : ((t1.len : Int) != t2.len) = false := by rw [bne, t0]; rfl
    go_enter Tryz.func14, Tryz.ntmps14
    go_wp2_with fail
    go_loopw [5] (fun i wr => ∃ k : Nat, k ≤ t1.len ∧ i = .int .i64 k ∧ Hid (∃ m, wr = w.drewN m) ∧ Hid (t1.list.take k = t2.list.take k)) (fun i _ => t1.len - (intOf i).toNat)
    case atStart => exact ⟨0, Nat.zero_le _, rfl, hide ⟨0, rfl⟩, hide rfl⟩
    case round =>
      obtain ⟨k, hk, rfl, HB, HG⟩ := hrel
      by_cases hlt : k < t1.len
      · obtain ⟨⟨f, K⟩, hf⟩ : ∃ f, t1.list[k]? = some f := ⟨_, List.getElem?_eq_getElem (by rw [Tr.len_list]; exact hlt)⟩
        obtain ⟨⟨g, L⟩, hg⟩ : ∃ g, t2.list[k]? = some g := ⟨_, List.getElem?_eq_getElem (by rw [Tr.len_list]; omega)⟩
        have hI1 := H1.out.kept (below_of13 HB.out)
        have hI2 := H2.out.kept (below_of13 HB.out)
        obtain ⟨a, d, x, y, z, m, ha, -, p1, p2, hA, p3, p4, hm, hK⟩ := NodesC.at hI1 k f K hf
        obtain ⟨b, d', x', y', z', m', hb, -, q1, q2, hB, q3, q4, hm', hL⟩ := NodesC.at hI2 k g L hg
        subst ha hb
        have hlt2 : k < t2.len := by omega
        have hKc := Tr.at_count hf
        obtain ⟨haf, haK⟩ := Tr.all_at HAL.out hf
        have HSA : Hid (∀ m, Calls Tryz.prog 46 #[.slice d f.attrs.length y, .slice d' g.attrs.length y'] (wr.drewN m) fun e w' => e = .returned (.bool (decide (f.attrs = g.attrs))) ∧ ∃ k, w' = (wr.drewN m).drewN k) :=
          hide fun m => sameAttrs_any _ _ _ _ _ (hA.1.kept ⟨rfl, rfl, rfl, Nat.le_refl _, fun _ _ => rfl⟩) (hB.1.kept ⟨rfl, rfl, rfl, Nat.le_refl _, fun _ _ => rfl⟩) (by simpa [attrsFew] using haf)
        have HSK : Hid (∀ q, Calls Tryz.prog 14 #[.slice x m z, .slice x' m' z'] (wr.drewN q) fun e w' => e = .returned (.bool (decide (K = L))) ∧ ∃ k, w' = (wr.drewN q).drewN k) :=
          hide fun q => HIH.out _ _ K L _ (by omega) (by omega) (NodesIn.kept hK ⟨rfl, rfl, rfl, Nat.le_refl _, fun _ _ => rfl⟩) (NodesIn.kept hL ⟨rfl, rfl, rfl, Nat.le_refl _, fun _ _ => rfl⟩) haK
        obtain ⟨X1, hX1⟩ : ∃ X, X = str f.name := ⟨_, rfl⟩
        obtain ⟨X2, hX2⟩ : ∃ X, X = str g.name := ⟨_, rfl⟩
        obtain ⟨Y1, hY1⟩ : ∃ X, X = str f.text := ⟨_, rfl⟩
        obtain ⟨Y2, hY2⟩ : ∃ X, X = str g.text := ⟨_, rfl⟩
        rw [← hX1] at p1
        rw [← hX2] at q1
        rw [← hY1] at p3
        rw [← hY2] at q3
        have HDF : Hid ((f, K) ≠ (g, L) → decide (t1 = t2) = false) := hide fun hne => decide_eq_false fun e => hne (by rw [e, hg] at hf; exact (Option.some.inj hf).symm)
        have HNX : Hid ((f, K) = (g, L) → t1.list.take (k + 1) = t2.list.take (k + 1)) := hide fun he => by rw [List.take_add_one, List.take_add_one, HG.out, hf, hg, he]
        have hxe : f.name ≠ g.name → (X1.toList == X2.toList) = false := fun h => by
          rw [hX1, hX2, bytes_list, bytes_list, str_toList, str_toList]; exact beq_eq_false_iff_ne.2 h
        have hye : f.text ≠ g.text → (Y1.toList == Y2.toList) = false := fun h => by
          rw [hY1, hY2, bytes_list, bytes_list, str_toList, str_toList]; exact beq_eq_false_iff_ne.2 h
        have hxs : f.name = g.name → X1 = X2 := fun h => by rw [hX1, hX2, h]
        have hys : f.text = g.text → Y1 = Y2 := fun h => by rw [hY1, hY2, h]
        have hne1 : f.name ≠ g.name → (f, K) ≠ (g, L) := fun h e => h (congrArg (fun z : NdH × Tr => z.1.name) e)
        have hne2 : f.text ≠ g.text → (f, K) ≠ (g, L) := fun h e => h (congrArg (fun z : NdH × Tr => z.1.text) e)
        have hne3 : f.attrs ≠ g.attrs → (f, K) ≠ (g, L) := fun h e => h (congrArg (fun z : NdH × Tr => z.1.attrs) e)
        have hne4 : K ≠ L → (f, K) ≠ (g, L) := fun h e => h (congrArg (fun z : NdH × Tr => z.2) e)
        have heq : f.name = g.name → f.text = g.text → f.attrs = g.attrs → K = L → (f, K) = (g, L) := fun e1 e2 e3 e4 => by
          rw [e4]
          congr 1
          cases f; cases g
          simp only at e1 e2 e3
          rw [e1, e2, e3]
        clear hf hg hX1 hX2 hY1 hY2 hA hB hK hL hm hm' haf haK hKc hI1 hI2
        by_cases e1 : f.name = g.name
        · have x1 := hxs e1
          subst x1
          by_cases e2 : f.text = g.text
          · have x2 := hys e2
            subst x2
            by_cases e3 : f.attrs = g.attrs
            · by_cases e4 : K = L
              · have HN : Hid (t1.list.take (k + 1) = t2.list.take (k + 1)) := hide (HNX.out (heq e1 e2 e3 e4))
                rw [decide_eq_true e3] at HSA
                rw [decide_eq_true e4] at HSK
                clear hxe hye hxs hys hne1 hne2 hne3 hne4 heq e1 e2 e3 e4
                go_wp2_with fail
                go_quiet (first | (go_at_call 46; exact Calls.quiet_of (HSA.out _)) | (go_at_call 14; exact Calls.quiet_of (HSK.out _)) | fail)
                go_wp2_with fail
                go_roundw
                case rel => exact ⟨k + 1, by omega, by go_num, hide (drew_on HB.out nq), HN⟩
                case measure => simp [intOf]; omega
              · have HD : Hid (decide (t1 = t2) = false) := hide (HDF.out (hne4 e4))
                rw [decide_eq_true e3] at HSA
                rw [decide_eq_false e4] at HSK
                clear hxe hye hxs hys hne1 hne2 hne3 hne4 heq e1 e2 e3 e4
                go_wp2_with fail
                go_quiet (first | (go_at_call 46; exact Calls.quiet_of (HSA.out _)) | (go_at_call 14; exact Calls.quiet_of (HSK.out _)) | fail)
                go_wp2_with fail
                go_ret
                exact ⟨ret_bool HD.out.symm, drew_on HB.out nq⟩
            · have HD : Hid (decide (t1 = t2) = false) := hide (HDF.out (hne3 e3))
              rw [decide_eq_false e3] at HSA
              clear hxe hye hxs hys hne1 hne2 hne3 hne4 heq e1 e2 e3
              go_wp2_with fail
              go_quiet (first | (go_at_call 46; exact Calls.quiet_of (HSA.out _)) | fail)
              go_wp2_with fail
              go_ret
              exact ⟨ret_bool HD.out.symm, drew_on HB.out nq⟩
          · have HD : Hid (decide (t1 = t2) = false) := hide (HDF.out (hne2 e2))
            have t3 := hye e2
            clear hxe hye hxs hys hne1 hne2 hne3 hne4 heq e1 e2
            go_wp2_with fail
            go_quiet (fail)
            go_wp2_with fail
            go_ret
            exact ⟨ret_bool HD.out.symm, drew_on HB.out nq⟩
        · have HD : Hid (decide (t1 = t2) = false) := hide (HDF.out (hne1 e1))
          have t2x := hxe e1
          clear hxe hye hxs hys hne1 hne2 hne3 hne4 heq e1
          go_wp2_with fail
          go_quiet (fail)
          go_wp2_with fail
          go_ret
          exact ⟨ret_bool HD.out.symm, drew_on HB.out nq⟩
      · have HD : Hid (decide (t1 = t2) = true) := hide (by
          have := HG.out
          rw [List.take_of_length_le (by rw [Tr.len_list]; omega), List.take_of_length_le (by rw [Tr.len_list]; omega)] at this
          exact decide_eq_true (Tr.list_inj this))
        go_wp2_with fail
        go_ret
        exact ⟨ret_bool HD.out.symm, HB.out⟩
  · have t0 : ((t1.len : Int) == t2.len) = false := by rw [beq_eq_false_iff_ne]; omega
    have t1x : ((t1.len : Int) != t2.len) = true := by rw [bne, t0]; rfl
    have HD : Hid (decide (t1 = t2) = false) := hide (decide_eq_false (fun e => hl (by rw [e])))
    clear hl
    go_enter Tryz.func14, Tryz.ntmps14
    go_wp2_with fail
    go_ret
    exact ⟨ret_bool HD.out.symm, 0, rfl⟩
theorem same14_all : ∀ n, SameP n
  | 0 => fun v1 v2 t1 t2 w h => absurd h (Nat.not_lt_zero _)
  | n + 1 => same14_step n (same14_all n)
theorem same14_any (v1 v2 : Value) (t1 t2 : Tr) (w : World) (hn : t1.count < 1048576) (h1 : NodesIn w v1 t1) (h2 : NodesIn w v2 t2) (ha : t1.all attrsFew = true) :
    Calls Tryz.prog 14 #[v1, v2] w fun e w' => e = .returned (.bool (decide (t1 = t2))) ∧ ∃ m, w' = w.drewN m :=
  same14_all (t1.count + 1) v1 v2 t1 t2 w (Nat.lt_succ_self _) hn h1 h2 ha
end Go.Proofs.YtiejmkjpgjbodaaGreatDoor

namespace Go.Proofs.YtiejmkjpgjbodaaGreatDoor
open Go.RowKit
set_option linter.unusedVariables false
set_option linter.unusedSimpArgs false
set_option maxRecDepth 100000
set_option maxHeartbeats 4000000 in
theorem slEqual_any (v1 v2 : Value) (l1 l2 : List AtL) (w : World) (h1 : AttrsIn w v1 l1) (h2 : AttrsIn w v2 l2) (hn : l1.length ≤ 1048576) :
    Calls Tryz.prog 77 #[v1, v2] w fun e w' => e = .returned (.bool (decide (l1 = l2))) ∧ ∃ m, w' = w.drewN m := by
  obtain ⟨A1, c1, rfl⟩ := h1.form
  obtain ⟨A2, c2, rfl⟩ := h2.form
  have H1 := hide h1
  have H2 := hide h2
  clear h1 h2
  by_cases hl : l1.length = l2.length
  · have t0 : ((l1.length : Int) == l2.length) = true := by rw [beq_iff_eq]; omega
    have t1 : ((l1.length : Int) != l2.length) = false := by rw [bne, t0]; rfl
    go_enter Tryz.func77, Tryz.ntmps77
    go_wp2_with fail
    go_loopw [13] (fun i wr => ∃ k : Nat, k ≤ l1.length ∧ i = .int .i64 k ∧ Hid (∃ m, wr = w.drewN m) ∧ Hid (l1.take k = l2.take k)) (fun i _ => l1.length - (intOf i).toNat)
    case atStart => exact ⟨0, Nat.zero_le _, rfl, hide ⟨0, rfl⟩, hide rfl⟩
    case round =>
      obtain ⟨k, hk, rfl, HB, HG⟩ := hrel
      by_cases hlt : k < l1.length
      · obtain ⟨f, hf⟩ : ∃ f, l1[k]? = some f := ⟨_, List.getElem?_eq_getElem hlt⟩
        obtain ⟨g, hg⟩ : ∃ g, l2[k]? = some g := ⟨_, List.getElem?_eq_getElem (by omega)⟩
        obtain ⟨a, ha, hc1, hc2⟩ := (H1.out.kept (below_of13 HB.out)).at k f hf
        obtain ⟨b, hb, hd1, hd2⟩ := (H2.out.kept (below_of13 HB.out)).at k g hg
        subst ha hb
        have hlt2 : k < l2.length := by omega
        obtain ⟨X1, hX1⟩ : ∃ X, X = str f.1 := ⟨_, rfl⟩
        obtain ⟨X2, hX2⟩ : ∃ X, X = str f.2 := ⟨_, rfl⟩
        obtain ⟨Y1, hY1⟩ : ∃ X, X = str g.1 := ⟨_, rfl⟩
        obtain ⟨Y2, hY2⟩ : ∃ X, X = str g.2 := ⟨_, rfl⟩
        rw [← hX1] at hc1
        rw [← hX2] at hc2
        rw [← hY1] at hd1
        rw [← hY2] at hd2
        by_cases he : f = g
        · have e1 : X1 = Y1 := by rw [hX1, hY1, he]
          have e2 : X2 = Y2 := by rw [hX2, hY2, he]
          subst e1 e2
          have HN : Hid (l1.take (k + 1) = l2.take (k + 1)) := hide (by rw [List.take_add_one, List.take_add_one, HG.out, hf, hg, he])
          clear he hf hg hX1 hX2 hY1 hY2
          rw [← hl] at *
          go_wp2_with fail
          go_quiet (fail)
          go_wp2_with fail
          go_roundw
          case rel => exact ⟨k + 1, by omega, by go_num, hide (drew_on HB.out nq), HN⟩
          case measure => simp [intOf]; omega
        · have HD : Hid (decide (l1 = l2) = false) := hide (decide_eq_false (fun e => he (by rw [e, hg] at hf; exact (Option.some.inj hf).symm)))
          by_cases he1 : f.1 = g.1
          · have he2 : f.2 ≠ g.2 := fun e => he (Prod.ext he1 e)
            have e1 : X1 = Y1 := by rw [hX1, hY1, he1]
            have t2 : (X2.toList == Y2.toList) = false := by
              rw [hX2, hY2, bytes_list, bytes_list, str_toList, str_toList]; exact beq_eq_false_iff_ne.2 he2
            subst e1
            clear he he1 he2 hf hg hX1 hX2 hY1 hY2
            go_wp2_with fail
            go_quiet (fail)
            go_wp2_with fail
            go_ret
            exact ⟨ret_bool HD.out.symm, drew_on HB.out nq⟩
          · have t2 : (X1.toList == Y1.toList) = false := by
              rw [hX1, hY1, bytes_list, bytes_list, str_toList, str_toList]; exact beq_eq_false_iff_ne.2 he1
            clear he he1 hf hg hX1 hX2 hY1 hY2
            go_wp2_with fail
            go_quiet (fail)
            go_wp2_with fail
            go_ret
            exact ⟨ret_bool HD.out.symm, drew_on HB.out nq⟩
      · have HD : Hid (decide (l1 = l2) = true) := hide (decide_eq_true (by
          have := HG.out
          rwa [List.take_of_length_le (by omega), List.take_of_length_le (by omega)] at this))
        go_wp2_with fail
        go_ret
        exact ⟨ret_bool HD.out.symm, HB.out⟩
  · have t0 : ((l1.length : Int) == l2.length) = false := by rw [beq_eq_false_iff_ne]; omega
    have t1 : ((l1.length : Int) != l2.length) = true := by rw [bne, t0]; rfl
    have HD : Hid (decide (l1 = l2) = false) := hide (decide_eq_false (fun e => hl (by rw [e])))
    clear hl
    go_enter Tryz.func77, Tryz.ntmps77
    go_wp2_with fail
    go_ret
    exact ⟨ret_bool HD.out.symm, 0, rfl⟩
def samF (g : Nat) : Value := .func (.func 76) #[] #[.pointer (some ⟨g, 0, none⟩)]
def SamC (w : World) (g : Nat) : Prop := g < w.heap.size ∧ w.cell? ⟨g, 0, none⟩ = some (samF g)
theorem SamC.kept {w w' : World} {g : Nat} (h : SamC w g) (hb : Below w.heap.size w w') : SamC w' g :=
  ⟨Nat.lt_of_lt_of_le h.1 hb.size, (World.cell?_of_block (hb.block g h.1)).trans h.2⟩
def EqfP (N : Nat) : Prop := ∀ (v1 v2 : Value) (t1 t2 : Tr) (w : World) (g : Nat), t1.count < N → N ≤ 1000000 → NodesIn w v1 t1 → NodesIn w v2 t2 → t1.all attrsFew = true → SamC w g →
    Calls Tryz.prog 78 #[v1, v2, samF g] w fun e w' => e = .returned (.bool (decide (t1 = t2))) ∧ Below w.heap.size w w'
theorem bl_two {w w1 w2 : World} (h : Below w.heap.size w w1) (h2 : Below w1.heap.size w1 w2) : Below w.heap.size w w2 := h.trans (h2.mono h.size)
set_option maxHeartbeats 8000000 in
theorem sameNode_of (N : Nat) (IH : EqfP N) (h1 h2 : NdH) (K1 K2 : Tr) (A1 A2 A3 A4 : Option Addr) (c1 c2 c3 c4 : Nat) (w : World) (g : Nat) (hN : N ≤ 1000000) (hc : K1.count < N)
    (ha1 : AttrsIn w (.slice A1 h1.attrs.length c1) h1.attrs) (ha2 : AttrsIn w (.slice A3 h2.attrs.length c3) h2.attrs) (hk1 : NodesIn w (.slice A2 K1.len c2) K1) (hk2 : NodesIn w (.slice A4 K2.len c4) K2) (hf : attrsFew h1 = true) (hff : K1.all attrsFew = true) (hs : SamC w g) :
    Calls Tryz.prog 76 #[.agg #[.string (str h1.name), .slice A1 h1.attrs.length c1, .string (str h1.text), .slice A2 K1.len c2], .agg #[.string (str h2.name), .slice A3 h2.attrs.length c3, .string (str h2.text), .slice A4 K2.len c4], .pointer (some ⟨g, 0, none⟩)] w fun e w' => e = .returned (.bool (decide ((h1, K1) = (h2, K2)))) ∧ Below w.heap.size w w' := by
  obtain ⟨X1, hX1⟩ : ∃ X, X = str h1.name := ⟨_, rfl⟩
  obtain ⟨X2, hX2⟩ : ∃ X, X = str h2.name := ⟨_, rfl⟩
  obtain ⟨Y1, hY1⟩ : ∃ X, X = str h1.text := ⟨_, rfl⟩
  obtain ⟨Y2, hY2⟩ : ∃ X, X = str h2.text := ⟨_, rfl⟩
  obtain ⟨D, hD⟩ : ∃ D, D = decide ((h1, K1) = (h2, K2)) := ⟨_, rfl⟩
  rw [← hX1, ← hX2, ← hY1, ← hY2, ← hD]
  obtain ⟨W1, hW1⟩ : ∃ W, W = w.alloc (Obj.cells #[.string X1, .slice A1 h1.attrs.length c1, .string Y1, .slice A2 K1.len c2] 33) := ⟨_, rfl⟩
  obtain ⟨W, hW⟩ : ∃ W, W = W1.alloc (Obj.cells #[.string X2, .slice A3 h2.attrs.length c3, .string Y2, .slice A4 K2.len c4] 33) := ⟨_, rfl⟩
  have hb1 : Below w.heap.size w W1 := by rw [hW1]; exact below_one w _
  have hbw : Below W1.heap.size W1 W := by rw [hW]; exact below_one W1 _
  have hb2 := bl_two hb1 hbw
  have hz1 : W1.heap.size = w.heap.size + 1 := by rw [hW1, World.size_alloc]
  have g1 : W.heap[w.heap.size]? = some (Obj.cells #[.string X1, .slice A1 h1.attrs.length c1, .string Y1, .slice A2 K1.len c2] 33 (0, 0)) := (hbw.block _ (by omega)).trans (by rw [hW1]; exact heap_alloc_new w _)
  have g2 : W.heap[w.heap.size + 1]? = some (Obj.cells #[.string X2, .slice A3 h2.attrs.length c3, .string Y2, .slice A4 K2.len c4] 33 (0, 0)) := by rw [← hz1, hW]; exact heap_alloc_new W1 _
  have hCE : ∀ w', Below w.heap.size w w' → (∀ k : Nat, k < W.heap.size → w'.heap[k]? = W.heap[k]?) → (w'.cell? ⟨w.heap.size, 1, none⟩ = some (.slice A1 h1.attrs.length c1) ∧ w'.cell? ⟨w.heap.size, 2, none⟩ = some (.string Y1) ∧ w'.cell? ⟨w.heap.size, 3, none⟩ = some (.slice A2 K1.len c2) ∧ w'.cell? ⟨w.heap.size + 1, 1, none⟩ = some (.slice A3 h2.attrs.length c3) ∧ w'.cell? ⟨w.heap.size + 1, 2, none⟩ = some (.string Y2) ∧ w'.cell? ⟨w.heap.size + 1, 3, none⟩ = some (.slice A4 K2.len c4)) ∧ w'.cell? ⟨g, 0, none⟩ = some (samF g) := fun w' hb hk => by
    have e1 := (hk _ (lt_of_block g1)).trans g1
    have e2 := (hk _ (lt_of_block g2)).trans g2
    exact ⟨⟨(Lib.cell_of_heap e1 1).trans rfl, (Lib.cell_of_heap e1 2).trans rfl, (Lib.cell_of_heap e1 3).trans rfl, (Lib.cell_of_heap e2 1).trans rfl, (Lib.cell_of_heap e2 2).trans rfl, (Lib.cell_of_heap e2 3).trans rfl⟩, (hs.kept hb).2⟩
  have HCE := hide hCE
  have HSA : Hid (∀ w', Below w.heap.size w w' → Calls Tryz.prog 77 #[.slice A1 h1.attrs.length c1, .slice A3 h2.attrs.length c3] w' fun e w'' => e = .returned (.bool (decide (h1.attrs = h2.attrs))) ∧ ∃ m, w'' = w'.drewN m) := hide (fun w' hb => slEqual_any _ _ _ _ w' (ha1.kept hb) (ha2.kept hb) (by simpa [attrsFew] using hf))
  have HEQ : Hid (∀ w', Below w.heap.size w w' → Calls Tryz.prog 78 #[.slice A2 K1.len c2, .slice A4 K2.len c4, samF g] w' fun e w'' => e = .returned (.bool (decide (K1 = K2))) ∧ Below w'.heap.size w' w'') := hide (fun w' hb => IH _ _ K1 K2 w' g hc hN (hk1.kept hb) (hk2.kept hb) hff (hs.kept hb))
  have HB2 := hide hb2
  have HW1 := hide hW1
  have HW := hide hW
  have hd1 : h1.name ≠ h2.name → D = false := fun h => by rw [hD]; exact decide_eq_false (fun e => h (congrArg (fun z : NdH × Tr => z.1.name) e))
  have hd2 : h1.text ≠ h2.text → D = false := fun h => by rw [hD]; exact decide_eq_false (fun e => h (congrArg (fun z : NdH × Tr => z.1.text) e))
  have hd3 : h1.attrs ≠ h2.attrs → D = false := fun h => by rw [hD]; exact decide_eq_false (fun e => h (congrArg (fun z : NdH × Tr => z.1.attrs) e))
  have hd4 : h1.name = h2.name → h1.text = h2.text → h1.attrs = h2.attrs → D = decide (K1 = K2) := fun e1 e2 e3 => by
    rw [hD]
    have eh : h1 = h2 := by cases h1; cases h2; simp only at e1 e2 e3; rw [e1, e2, e3]
    rw [eh]
    by_cases hk : K1 = K2
    · rw [hk]; simp
    · rw [decide_eq_false hk]; exact decide_eq_false (fun e => hk (congrArg Prod.snd e))
  clear hCE hb1 hbw hb2 hz1 g1 g2 hW1 hW ha1 ha2 hk1 hk2 hf hff hs hc hN IH hD
  by_cases n1 : h1.name = h2.name
  · obtain rfl : X1 = X2 := by rw [hX1, hX2, n1]
    by_cases n2 : h1.text = h2.text
    · obtain rfl : Y1 = Y2 := by rw [hY1, hY2, n2]
      by_cases n3 : h1.attrs = h2.attrs
      · have HD := hide (hd4 n1 n2 n3)
        rw [decide_eq_true n3] at HSA
        clear hd1 hd2 hd3 hd4 n1 n2 n3 hX1 hX2 hY1 hY2
        go_enter Tryz.func76, Tryz.ntmps76
        go_wp2_with fail
        rw [← HW1.out, ← HW.out]
        refine (HSA.out _ HB2.out).mono ?_
        rintro e w3 ⟨rfl, hq⟩
        have hb3 := bl_two HB2.out (below_of13 hq)
        obtain ⟨⟨d1, d2, d3, d4, d5, d6⟩, d7⟩ := HCE.out w3 hb3 (by obtain ⟨q, rfl⟩ := hq; intro k _; rfl)
        have HB3 := hide hb3
        clear hq hb3
        go_wp2_with fail
        refine (HEQ.out _ HB3.out).mono ?_
        rintro e w4 ⟨rfl, hb4⟩
        have HB4 := hide (bl_two HB3.out hb4)
        clear hb4
        rw [← HD.out]
        go_wp2_with fail
        go_ret
        exact ⟨rfl, HB4.out⟩
      · have HD := hide (hd3 n3)
        rw [decide_eq_false n3] at HSA
        clear hd1 hd2 hd3 hd4 n1 n2 n3 hX1 hX2 hY1 hY2
        go_enter Tryz.func76, Tryz.ntmps76
        go_wp2_with fail
        rw [← HW1.out, ← HW.out]
        refine (HSA.out _ HB2.out).mono ?_
        rintro e w3 ⟨rfl, hq⟩
        have HB3 := hide (bl_two HB2.out (below_of13 hq))
        clear hq
        go_wp2_with fail
        go_ret
        exact ⟨ret_bool HD.out.symm, HB3.out⟩
    · have HD := hide (hd2 n2)
      have t2 : (Y1.toList == Y2.toList) = false := by
        rw [hY1, hY2, bytes_list, bytes_list, str_toList, str_toList]; exact beq_eq_false_iff_ne.2 n2
      clear hd1 hd2 hd3 hd4 n1 n2 hX1 hX2 hY1 hY2
      go_enter Tryz.func76, Tryz.ntmps76
      go_wp2_with fail
      go_ret
      exact ⟨ret_bool HD.out.symm, by rw [← HW1.out, ← HW.out]; exact HB2.out⟩
  · have HD := hide (hd1 n1)
    have t2 : (X1.toList == X2.toList) = false := by
      rw [hX1, hX2, bytes_list, bytes_list, str_toList, str_toList]; exact beq_eq_false_iff_ne.2 n1
    clear hd1 hd2 hd3 hd4 n1 hX1 hX2 hY1 hY2
    go_enter Tryz.func76, Tryz.ntmps76
    go_wp2_with fail
    go_ret
    exact ⟨ret_bool HD.out.symm, by rw [← HW1.out, ← HW.out]; exact HB2.out⟩
set_option maxHeartbeats 8000000 in
theorem eqf_step (n : Nat) (IH : EqfP n) : EqfP (n + 1) := by
  intro v1 v2 t1 t2 w g hn hN h1 h2 ha hs
  have hn1 : t1.len ≤ 1048576 := Nat.le_trans (Tr.len_count t1) (by omega)
  obtain ⟨A1, c1, rfl⟩ := NodesC.form h1
  obtain ⟨A2, c2, rfl⟩ := NodesC.form h2
  have H1 := hide h1
  have H2 := hide h2
  have HAL := hide ha
  have HSC := hide hs
  have HIH := hide IH
  clear h1 h2 ha IH hs
  unfold samF
  by_cases hl : t1.len = t2.len
  · have t0 : ((t1.len : Int) == t2.len) = true := by rw [beq_iff_eq]; omega
    have t1x : ((t1.len : Int) != t2.len) = false := by rw [bne, t0]; rfl
    have HL := hide hl
    clear hl
    go_enter Tryz.func78, Tryz.ntmps78
    go_wp2_with fail
    go_loopw [17] (fun i wr => ∃ k : Nat, k ≤ t1.len ∧ i = .int .i64 k ∧ Hid (Below w.heap.size w wr) ∧ Hid (t1.list.take k = t2.list.take k)) (fun i _ => t1.len - (intOf i).toNat)
    case atStart => exact ⟨0, Nat.zero_le _, rfl, hide (Below.refl _ _), hide rfl⟩
    case round =>
      obtain ⟨k, hk, rfl, HB, HG⟩ := hrel
      by_cases hlt : k < t1.len
      · obtain ⟨⟨f, K⟩, hf⟩ : ∃ f, t1.list[k]? = some f := ⟨_, List.getElem?_eq_getElem (by rw [Tr.len_list]; exact hlt)⟩
        obtain ⟨⟨h, L⟩, hg⟩ : ∃ g, t2.list[k]? = some g := ⟨_, List.getElem?_eq_getElem (by rw [Tr.len_list]; have := HL.out; omega)⟩
        have hlt2 : k < t2.len := by have := HL.out; omega
        have hI1 := H1.out.kept HB.out
        obtain ⟨a, d, x, y, z, m, ha, -, p1, p2, hA, p3, p4, hm, hK⟩ := NodesC.at hI1 k f K hf
        subst ha hm
        have hb1 := below_one wr (Obj.cells #[.string (str f.name), .slice d f.attrs.length y, .string (str f.text), .slice x K.len z] 33)
        have hI2 := H2.out.kept (bl_two HB.out hb1)
        obtain ⟨b, d', x', y', z', m', hb, -, q1, q2, hB, q3, q4, hm', hL⟩ := NodesC.at hI2 k h L hg
        subst hb hm'
        have hKc := Tr.at_count hf
        obtain ⟨haf, haK⟩ := Tr.all_at HAL.out hf
        have hb3 := below_one (wr.alloc (Obj.cells #[.string (str f.name), .slice d f.attrs.length y, .string (str f.text), .slice x K.len z] 33)) (Obj.cells #[.string (str h.name), .slice d' h.attrs.length y', .string (str h.text), .slice x' L.len z'] 33)
        have hb2 := bl_two hb1 hb3
        have HSM := hide (sameNode_of n HIH.out f h K L d x d' x' y z y' z' _ g (by omega) (by omega) (hA.1.kept hb2) (hB.1.kept hb3) (NodesIn.kept hK hb2) (NodesIn.kept hL hb3) haf haK ((HSC.out.kept HB.out).kept hb2))
        have HB2 := hide (bl_two HB.out hb2)
        have HF := hide hf
        have HGG := hide hg
        clear hI1 hI2 hA hB hK hL hb1 hb2 hb3 hKc haf haK hf hg
        by_cases he : (f, K) = (h, L)
        · have HN : Hid (t1.list.take (k + 1) = t2.list.take (k + 1)) := hide (by rw [List.take_add_one, List.take_add_one, HG.out, HF.out, HGG.out, he])
          rw [decide_eq_true he] at HSM
          clear he HF HGG
          go_wp2_with fail
          refine HSM.out.mono ?_
          rintro e w3 ⟨rfl, hb3⟩
          have HB3 := hide (bl_two HB2.out hb3)
          clear hb3
          go_wp2_with fail
          go_roundw
          case rel => exact ⟨k + 1, by omega, by go_num, HB3, HN⟩
          case measure => simp [intOf]; omega
        · have HD : Hid (decide (t1 = t2) = false) := hide (decide_eq_false (fun e => he (by have hf := HF.out; rw [e, HGG.out] at hf; exact (Option.some.inj hf).symm)))
          rw [decide_eq_false he] at HSM
          clear he HF HGG
          go_wp2_with fail
          refine HSM.out.mono ?_
          rintro e w3 ⟨rfl, hb3⟩
          have HB3 := hide (bl_two HB2.out hb3)
          clear hb3
          go_wp2_with fail
          go_ret
          exact ⟨ret_bool HD.out.symm, HB3.out⟩
      · have HD : Hid (decide (t1 = t2) = true) := hide (decide_eq_true (by
          have := HG.out
          rw [List.take_of_length_le (by rw [Tr.len_list]; omega), List.take_of_length_le (by rw [Tr.len_list]; have := HL.out; omega)] at this
          exact Tr.list_inj this))
        go_wp2_with fail
        go_ret
        exact ⟨ret_bool HD.out.symm, HB.out⟩
  · have t0 : ((t1.len : Int) == t2.len) = false := by rw [beq_eq_false_iff_ne]; omega
    have t1x : ((t1.len : Int) != t2.len) = true := by rw [bne, t0]; rfl
    have HD : Hid (decide (t1 = t2) = false) := hide (decide_eq_false (fun e => hl (by rw [e])))
    clear hl
    go_enter Tryz.func78, Tryz.ntmps78
    go_wp2_with fail
    go_ret
    exact ⟨ret_bool HD.out.symm, Below.refl _ _⟩
theorem eqf_all : ∀ n, EqfP n
  | 0 => fun v1 v2 t1 t2 w g h => absurd h (Nat.not_lt_zero _)
  | n + 1 => eqf_step n (eqf_all n)
set_option maxHeartbeats 4000000 in
theorem serSame_any (v1 v2 : Value) (t1 t2 : Tr) (w : World) (hn : t1.count < 1000000) (h1 : NodesIn w v1 t1) (h2 : NodesIn w v2 t2) (ha : t1.all attrsFew = true) :
    Calls Tryz.prog 30 #[v1, v2] w fun e w' => e = .returned (.bool (decide (t1 = t2))) ∧ Below w.heap.size w w' := by
  obtain ⟨A1, c1, rfl⟩ := NodesC.form h1
  obtain ⟨A2, c2, rfl⟩ := NodesC.form h2
  have hmf : ∀ (fn : Fn) (first cap : Array Value) (w : World), (Instr.makeFunc fn first cap).run Tryz.prog w = .ok (.func fn first cap) w := fun _ _ _ _ => rfl
  have hst := fun (a : Addr) (w : World) (fn : Fn) (x y : Array Value) => run_store Tryz.prog w a (.func fn x y) .plain rfl
  have HQ : Hid (∀ w', Below w.heap.size w w' → SamC w' w.heap.size → Calls Tryz.prog 78 #[.slice A1 t1.len c1, .slice A2 t2.len c2, samF w.heap.size] w' fun e w'' => e = .returned (.bool (decide (t1 = t2))) ∧ Below w'.heap.size w' w'') := hide (fun w' hb hs =>
    eqf_all (t1.count + 1) _ _ t1 t2 w' w.heap.size (Nat.lt_succ_self _) (by omega) (h1.kept hb) (h2.kept hb) ha hs)
  clear h1 h2 ha
  go_enter Tryz.func30, Tryz.ntmps30
  go_wp2_with fail
  have hb := below_one w (Obj.cells #[samF w.heap.size] 102)
  refine (HQ.out _ hb ⟨by rw [World.size_alloc]; omega, (World.cell?_alloc_at _ _ _ _ rfl).trans rfl⟩).mono ?_
  rintro e w1 ⟨rfl, hb1⟩
  have HB := hide (bl_two hb hb1)
  clear hb hb1
  go_wp2_with fail
  go_ret
  exact ⟨rfl, HB.out⟩
end Go.Proofs.YtiejmkjpgjbodaaGreatDoor

namespace Go.Proofs.YtiejmkjpgjbodaaGreatDoor
open Go.RowKit
set_option linter.unusedVariables false
set_option linter.unusedSimpArgs false
set_option maxRecDepth 100000
def kidsW (l : List (NdH × Tr)) : Nat := (Tr.of l).count
theorem kidsW_append (a b : List (NdH × Tr)) : kidsW (a ++ b) = kidsW a + kidsW b := by
  induction a with
  | nil => simp [kidsW, Tr.of, Tr.count]
  | cons p r ih => obtain ⟨h, k⟩ := p; simp only [kidsW, List.cons_append, Tr.of, Tr.count] at ih ⊢; omega
theorem kidsW_len (l : List (NdH × Tr)) : l.length ≤ kidsW l := by rw [← Tr.len_of]; exact Tr.len_count _
def tailW (x : List UInt8) : Nat := if x = [] then 0 else 1
def PartL.wt (p : PartL) : Nat := kidsW p.kids + tailW p.tail
def stW : List PartL → Nat
  | [] => 0
  | [p] => p.wt
  | p :: r => p.wt + 1 + stW r
theorem stW_cons (p q : PartL) (r : List PartL) : stW (p :: q :: r) = p.wt + 1 + stW (q :: r) := rfl
theorem endText_wt (p : PartL) : (endTextL p).wt = p.wt := by
  unfold endTextL
  split
  · rfl
  · rename_i h
    simp only [PartL.wt, kidsW_append, tailW, if_neg h, if_true]
    simp [kidsW, textNd, Tr.of, Tr.count]
theorem endText_tail (p : PartL) : (endTextL p).tail = [] := by unfold endTextL; split <;> first | assumption | rfl
theorem endText_head (p : PartL) : (endTextL p).name = p.name ∧ (endTextL p).attrs = p.attrs := by unfold endTextL; split <;> exact ⟨rfl, rfl⟩
theorem endText_kids_wt (p : PartL) : kidsW (endTextL p).kids = p.wt := by
  have := endText_wt p
  rw [← this, PartL.wt, endText_tail]; rfl
theorem node_wt (p : PartL) : kidsW [p.node] = 1 + kidsW p.kids := by simp [kidsW, PartL.node, Tr.of, Tr.count]
theorem closeTop_wt (st : List PartL) : stW (closeTop st) = stW st := by
  match st with
  | [] => rfl
  | [p] => rfl
  | p :: q :: r =>
    have h1 : ({ q with kids := q.kids ++ [(endTextL p).node] } : PartL).wt = q.wt + (1 + p.wt) := by
      simp only [PartL.wt, kidsW_append, node_wt, endText_kids_wt]
      omega
    cases r with
    | nil => show PartL.wt _ = p.wt + 1 + q.wt; rw [h1]; omega
    | cons x y => show PartL.wt _ + 1 + stW (x :: y) = p.wt + 1 + (q.wt + 1 + stW (x :: y)); rw [h1]; omega
theorem closeN_wt (n : Nat) (st : List PartL) : stW (closeN n st) = stW st := by
  induction n generalizing st with
  | zero => rfl
  | succ n ih => rw [closeN, ih, closeTop_wt]
theorem closeAll_wt (is : List UInt8 → Bool) (f : Nat) (st : List PartL) : stW (closeAll is f st) = stW st := by
  induction f generalizing st with
  | zero => rfl
  | succ f ih =>
    rw [closeAll]
    split
    · rfl
    · rw [ih, closeN_wt]
theorem stW_head {p p' : PartL} (r : List PartL) (k : Nat) (h : p'.wt = p.wt + k) : stW (p' :: r) = stW (p :: r) + k := by
  cases r with
  | nil => exact h
  | cons q r => rw [stW_cons, stW_cons, h]; omega
theorem putP_cons (t : TokL) (p : PartL) (r : List PartL) (n : Nat) : putP t (p :: r) n = if voidB t.name = true ∨ 30 < (p :: r).length then ({ endTextL p with kids := (endTextL p).kids ++ [(⟨t.name, t.attrs, []⟩, Tr.nil)] } :: r, n + 1)
    else (⟨t.name, t.attrs, [], []⟩ :: endTextL p :: r, n + 1) := rfl
theorem charsP_cons (x : List UInt8) (p : PartL) (r : List PartL) (n : Nat) : charsP x (p :: r, n) = if p.tail = [] then (if n = 5000 then (p :: r, n) else ({ p with tail := x } :: r, n + 1)) else ({ p with tail := p.tail ++ x } :: r, n) := rfl
theorem put_wt (t : TokL) (st : List PartL) (n : Nat) (hs : st ≠ []) : stW (putP t st n).1 = stW st + 1 ∧ (putP t st n).2 = n + 1 ∧ (putP t st n).1 ≠ [] ∧ (putP t st n).1.length ≤ max st.length 31 := by
  match st, hs with
  | p :: r, _ =>
    rw [putP_cons]
    split
    · refine ⟨?_, rfl, by simp, by simp only [List.length_cons]; omega⟩
      refine stW_head r 1 ?_
      have := endText_wt p
      unfold PartL.wt at this ⊢
      rw [kidsW_append, ← this]
      simp only [kidsW, Tr.of, Tr.count]; omega
    · rename_i hc
      refine ⟨?_, rfl, by simp, by simp only [not_or, List.length_cons] at hc ⊢; omega⟩
      show stW (⟨t.name, t.attrs, [], []⟩ :: endTextL p :: r) = _
      rw [stW_cons, stW_head (p := p) r 0 (by rw [endText_wt]; rfl)]
      simp [PartL.wt, kidsW, tailW, Tr.of, Tr.count]; omega
def OkS (s : BsL) : Prop := s.1 ≠ [] ∧ stW s.1 ≤ s.2 ∧ s.2 ≤ 5000 ∧ s.1.length ≤ 31
theorem tok_ok {s : BsL} (h : OkS s) (t : TokL) : OkS (tokB s t) ∧ (tokB s t).2 ≤ s.2 + 1 := by
  obtain ⟨st, n⟩ := s
  obtain ⟨h1, h2, h3, h4⟩ := h
  simp only at h1 h2 h3 h4
  unfold tokB
  split
  · match st, h1 with
    | p :: r, h1 =>
      rw [charsP_cons]
      split
      · rename_i ht
        split
        · exact ⟨⟨h1, h2, h3, h4⟩, Nat.le_succ _⟩
        · rename_i hn
          refine ⟨⟨by simp, ?_, by simp only; omega, h4⟩, Nat.le_refl _⟩
          have : stW ({ p with tail := t.text } :: r) = stW (p :: r) + tailW t.text := stW_head r _ (by simp [PartL.wt, ht, tailW])
          rw [this]
          have : tailW t.text ≤ 1 := by unfold tailW; split <;> omega
          omega
      · rename_i ht
        refine ⟨⟨by simp, ?_, h3, h4⟩, Nat.le_succ _⟩
        have : stW ({ p with tail := p.tail ++ t.text } :: r) = stW (p :: r) + 0 := stW_head r _ (by simp [PartL.wt, ht, tailW])
        rw [this]; exact h2
  · split
    · unfold startP
      simp only
      have g1 := closeAll_wt (closesB t.name) st.length st
      have g2 := closeAll_length (closesB t.name) st.length st
      split
      · exact ⟨⟨g2.2 h1, by rw [g1]; exact h2, h3, Nat.le_trans g2.1 h4⟩, Nat.le_succ _⟩
      · rename_i hn
        obtain ⟨p1, p2, p3, p4⟩ := put_wt t (closeAll (closesB t.name) st.length st) n (g2.2 h1)
        refine ⟨⟨p3, ?_, by rw [p2]; omega, by omega⟩, by rw [p2]; exact Nat.le_refl _⟩
        rw [p1, p2, g1]; omega
    · split
      · unfold endP
        simp only
        split
        · exact ⟨⟨h1, h2, h3, h4⟩, Nat.le_succ _⟩
        · rename_i k hk
          obtain ⟨k1, k2⟩ := findP_lt hk
          have := closeN_length k st k2
          exact ⟨⟨fun e => by have e : closeN k st = [] := e; rw [e] at this; simp only [List.length_nil] at this; omega, by simp only [closeN_wt]; exact h2, h3, by simp only; omega⟩, Nat.le_succ _⟩
      · exact ⟨⟨h1, h2, h3, h4⟩, Nat.le_succ _⟩
theorem ok_root : OkS ([rootL], 0) := ⟨by simp, Nat.le_refl _, by omega, by simp⟩
theorem fold_ok (L : List TokL) {s : BsL} (h : OkS s) : OkS (L.foldl tokB s) ∧ (L.foldl tokB s).2 ≤ s.2 + L.length := by
  induction L generalizing s with
  | nil => exact ⟨h, Nat.le_refl _⟩
  | cons t r ih =>
    obtain ⟨a, b⟩ := tok_ok h t
    obtain ⟨c, d⟩ := ih a
    exact ⟨c, by simp only [List.foldl_cons, List.length_cons]; omega⟩
theorem endTree_count (st : List PartL) (h : st ≠ []) : (endTree st).count = stW st := by
  unfold endTree
  have hl : 0 < st.length := List.length_pos_iff.2 h
  have h1 := closeN_length (st.length - 1) st (by omega)
  have h2 := closeN_wt (st.length - 1) st
  match hm : closeN (st.length - 1) st, h1 with
  | [p], _ => rw [hm] at h2; rw [← h2]; exact endText_kids_wt p
  | [], h1 => simp only [List.length_nil] at h1; omega
  | _ :: _ :: _, h1 => simp only [List.length_cons] at h1; omega
end Go.Proofs.YtiejmkjpgjbodaaGreatDoor

namespace Go.Proofs.YtiejmkjpgjbodaaGreatDoor
open Go.RowKit
set_option linter.unusedVariables false
set_option linter.unusedSimpArgs false
set_option maxRecDepth 100000
def rightB : Nat → Bool → Tr → Bool
  | _, _, .nil => true
  | d, pt, .cons h k r => decide (d ≠ 0) && ((if h.name = [] then decide (h.text ≠ [] ∧ k = .nil ∧ h.attrs = [] ∧ pt = false) else decide (h.text = [] ∧ (k = .nil ∨ voidB h.name = false))) &&
      (rightB (d - 1) false k && rightB d (decide (h.name = [])) r))
def lastT : Bool → List (NdH × Tr) → Bool
  | pt, [] => pt
  | _, p :: r => lastT (decide (p.1.name = [])) r
theorem lastT_snoc (l : List (NdH × Tr)) (p : NdH × Tr) (pt : Bool) : lastT pt (l ++ [p]) = decide (p.1.name = []) := by
  induction l generalizing pt with
  | nil => rfl
  | cons q r ih => exact ih _
def nodeOK (d : Nat) (p : NdH × Tr) (pt : Bool) : Prop := d ≠ 0 ∧ (if p.1.name = [] then p.1.text ≠ [] ∧ p.2 = .nil ∧ p.1.attrs = [] ∧ pt = false else p.1.text = [] ∧ (p.2 = .nil ∨ voidB p.1.name = false)) ∧ rightB (d - 1) false p.2 = true
theorem right_snoc (l : List (NdH × Tr)) (p : NdH × Tr) (d : Nat) (pt : Bool) (h : rightB d pt (Tr.of l) = true) (hp : nodeOK d p (lastT pt l)) : rightB d pt (Tr.of (l ++ [p])) = true := by
  induction l generalizing pt with
  | nil =>
    obtain ⟨h, k⟩ := p
    obtain ⟨a, b, c⟩ := hp
    simp only [lastT] at b
    simp only [List.nil_append, Tr.of, rightB, Bool.and_eq_true, decide_eq_true_eq]
    refine ⟨a, ?_, c, trivial⟩
    by_cases hn : h.name = []
    · simp only [if_pos hn] at b ⊢; simpa using b
    · simp only [if_neg hn] at b ⊢; simpa using b
  | cons q r ih =>
    obtain ⟨g, k⟩ := q
    simp only [Tr.of, rightB, List.cons_append, Bool.and_eq_true] at h ⊢
    exact ⟨h.1, h.2.1, h.2.2.1, ih _ h.2.2.2 hp⟩
def RestR : List PartL → Prop
  | [] => True
  | p :: r => rightB (31 - r.length) false (Tr.of p.kids) = true ∧ p.tail = [] ∧ (r ≠ [] → p.name ≠ [] ∧ voidB p.name = false) ∧ RestR r
def TopR : List PartL → Prop
  | [] => False
  | p :: r => rightB (31 - r.length) false (Tr.of p.kids) = true ∧ lastT false p.kids = false ∧ (r ≠ [] → p.name ≠ [] ∧ voidB p.name = false) ∧ RestR r ∧ r.length ≤ 30
theorem endText_right {p : PartL} {d : Nat} (h : rightB d false (Tr.of p.kids) = true) (hl : lastT false p.kids = false) (hd : d ≠ 0) : rightB d false (Tr.of (endTextL p).kids) = true := by
  unfold endTextL
  split
  · exact h
  · rename_i ht
    refine right_snoc _ _ _ _ h ⟨hd, ?_, rfl⟩
    simp only [textNd, if_true]
    exact ⟨ht, trivial, trivial, hl⟩
theorem closeTop_right {st : List PartL} (h : TopR st) : TopR (closeTop st) := by
  match st, h with
  | [p], h => exact h
  | p :: q :: r, h =>
    obtain ⟨h1, h2, h3, ⟨g1, g2, g3, g4⟩, h5⟩ := h
    simp only [List.length_cons] at h1 h5
    have hn := h3 (by simp)
    have he := endText_right (p := p) h1 h2 (by omega)
    refine ⟨right_snoc _ _ _ _ g1 ⟨by omega, ?_, ?_⟩, ?_, g3, g4, by omega⟩
    · simp only [PartL.node, endText_head, if_neg hn.1]
      exact ⟨trivial, .inr hn.2⟩
    · show rightB (31 - r.length - 1) false (Tr.of (endTextL p).kids) = true
      rw [show 31 - r.length - 1 = 31 - (r.length + 1) by omega]; exact he
    · show lastT false (q.kids ++ [(endTextL p).node]) = false
      rw [lastT_snoc, decide_eq_false]
      show ¬ (endTextL p).name = []
      rw [(endText_head p).1]; exact hn.1
theorem closeN_right {st : List PartL} (n : Nat) (h : TopR st) : TopR (closeN n st) := by
  induction n generalizing st with
  | zero => exact h
  | succ n ih => exact ih (closeTop_right h)
theorem closeAll_right (is : List UInt8 → Bool) (f : Nat) {st : List PartL} (h : TopR st) : TopR (closeAll is f st) := by
  induction f generalizing st with
  | zero => exact h
  | succ f ih =>
    rw [closeAll]
    split
    · exact h
    · exact ih (closeN_right _ h)
theorem put_right {t : TokL} {st : List PartL} (n : Nat) (h : TopR st) (ht : t.name ≠ []) : TopR (putP t st n).1 := by
  match st, h with
  | p :: r, h =>
    obtain ⟨h1, h2, h3, h4, h5⟩ := h
    have he := endText_right (p := p) h1 h2 (by omega)
    have hh := endText_head p
    rw [putP_cons]
    split
    · refine ⟨right_snoc _ _ _ _ he ⟨by omega, ?_, rfl⟩, ?_, ?_, h4, h5⟩
      · simp only [if_neg ht]; exact ⟨trivial, .inl trivial⟩
      · rw [lastT_snoc]; simpa using ht
      · simp only [hh.1]; exact h3
    · rename_i hc
      simp only [not_or, List.length_cons, Bool.not_eq_true] at hc
      refine ⟨rfl, rfl, fun _ => ⟨ht, hc.1⟩, ⟨he, endText_tail p, ?_, h4⟩, by simp only [List.length_cons]; omega⟩
      rw [hh.1]; exact h3
theorem tok_right {s : BsL} {t : TokL} (h : TopR s.1) (ht : t.kind = 2 → t.name ≠ []) : TopR (tokB s t).1 := by
  obtain ⟨st, n⟩ := s
  unfold tokB
  split
  · match st, h with
    | p :: r, h =>
      rw [charsP_cons]
      split
      · split
        · exact h
        · exact h
      · exact h
  · split
    · rename_i _ hk
      unfold startP
      have := closeAll_right (closesB t.name) st.length h
      split
      · exact this
      · exact put_right _ this (ht hk)
    · split
      · unfold endP
        split
        · exact h
        · exact closeN_right _ h
      · exact h
theorem fold_right (L : List TokL) {s : BsL} (h : TopR s.1) (ht : ∀ t ∈ L, t.kind = 2 → t.name ≠ []) : TopR (L.foldl tokB s).1 := by
  induction L generalizing s with
  | nil => exact h
  | cons t r ih => exact ih (tok_right h (ht t (List.mem_cons_self ..))) (fun u hu => ht u (List.mem_cons_of_mem _ hu))
theorem endTree_right {st : List PartL} (h : TopR st) : rightB 31 false (endTree st) = true := by
  unfold endTree
  have hl : 0 < st.length := by match st, h with | p :: r, _ => simp
  have h1 := closeN_length (st.length - 1) st (by omega)
  have h2 := closeN_right (st.length - 1) h
  match hm : closeN (st.length - 1) st, h1 with
  | [p], _ =>
    rw [hm] at h2
    exact endText_right h2.1 h2.2.1 (by simp)
  | [], h1 => rfl
  | _ :: _ :: _, h1 => simp only [List.length_cons] at h1; omega
theorem top_root : TopR [rootL] := ⟨rfl, rfl, fun h => absurd rfl h, trivial, by simp⟩
theorem build_right (L : List TokL) (ht : ∀ t ∈ L, t.kind = 2 → t.name ≠ []) : rightB 31 false (buildP L) = true := endTree_right (fold_right L top_root ht)
def shutB (n : List UInt8) : List (List UInt8) → Bool
  | [] => false
  | o :: r => closesB n o || (!wallB o && shutB n r)
def insB : List (List UInt8) → Tr → Bool
  | _, .nil => false
  | op, .cons h k r => (if h.name = [] then false else shutB h.name op || insB (h.name :: op) k) || insB op r
def pathN : List PartL → List (List UInt8)
  | p :: q :: r => p.name :: pathN (q :: r)
  | _ => []
theorem find_shut (n : List UInt8) (st : List PartL) (h : findP (closesB n) st = none) : shutB n (pathN st) = false := by
  induction st with
  | nil => rfl
  | cons p r ih => cases r with
    | nil => rfl
    | cons q r =>
      simp only [findP] at h
      split at h
      · cases h
      · rename_i h1
        simp only [pathN, shutB]
        split at h
        · rename_i h2; rw [Bool.eq_false_iff.2 h1, h2]; rfl
        · simp only [Option.map_eq_none_iff] at h
          rw [Bool.eq_false_iff.2 h1, ih h, Bool.and_false]; rfl
theorem ins_snoc (op : List (List UInt8)) (l : List (NdH × Tr)) (p : NdH × Tr) (h : insB op (Tr.of l) = false) (hp : p.1.name = [] ∨ (shutB p.1.name op = false ∧ insB (p.1.name :: op) p.2 = false)) : insB op (Tr.of (l ++ [p])) = false := by
  induction l with
  | nil =>
    obtain ⟨g, k⟩ := p
    simp only [List.nil_append, Tr.of, insB, Bool.or_false]
    rcases hp with hp | ⟨h1, h2⟩
    · simp only at hp; rw [if_pos hp]
    · simp only at h1 h2; split
      · rfl
      · rw [h1, h2]; rfl
  | cons q r ih =>
    obtain ⟨g, k⟩ := q
    simp only [Tr.of, insB, List.cons_append, Bool.or_eq_false_iff] at h ⊢
    exact ⟨h.1, ih h.2⟩
def InvN : List PartL → Prop
  | [] => True
  | p :: r => insB (pathN (p :: r)) (Tr.of p.kids) = false ∧ (r ≠ [] → shutB p.name (pathN r) = false) ∧ InvN r
theorem pathN_head (p p' : PartL) (r : List PartL) (h : p'.name = p.name) : pathN (p' :: r) = pathN (p :: r) := by
  cases r with
  | nil => rfl
  | cons q r => simp only [pathN, h]
theorem inv_mk {p p' : PartL} {r : List PartL} (hn : p'.name = p.name) (h1 : insB (pathN (p :: r)) (Tr.of p'.kids) = false) (h2 : r ≠ [] → shutB p.name (pathN r) = false) (h3 : InvN r) : InvN (p' :: r) :=
  ⟨by rw [pathN_head p p' r hn]; exact h1, by rw [hn]; exact h2, h3⟩
theorem endText_ins {op : List (List UInt8)} {p : PartL} (h : insB op (Tr.of p.kids) = false) : insB op (Tr.of (endTextL p).kids) = false := by
  unfold endTextL
  split
  · exact h
  · exact ins_snoc _ _ _ h (.inl rfl)
theorem closeTop_ins {st : List PartL} (h : InvN st) : InvN (closeTop st) := by
  match st, h with
  | [], h => exact h
  | [p], h => exact h
  | p :: q :: r, h =>
    obtain ⟨h1, h2, g1, g2, g3⟩ := h
    refine inv_mk (p := q) rfl (ins_snoc _ _ _ g1 (.inr ⟨?_, ?_⟩)) g2 g3
    · show shutB (endTextL p).name _ = false
      rw [(endText_head p).1]; exact h2 (by simp)
    · show insB ((endTextL p).name :: _) (Tr.of (endTextL p).kids) = false
      rw [(endText_head p).1]; exact endText_ins h1
theorem closeN_ins {st : List PartL} (n : Nat) (h : InvN st) : InvN (closeN n st) := by
  induction n generalizing st with
  | zero => exact h
  | succ n ih => exact ih (closeTop_ins h)
theorem closeAll_ins (is : List UInt8 → Bool) (f : Nat) {st : List PartL} (h : InvN st) : InvN (closeAll is f st) := by
  induction f generalizing st with
  | zero => exact h
  | succ f ih =>
    rw [closeAll]
    split
    · exact h
    · exact ih (closeN_ins _ h)
theorem put_ins {t : TokL} {st : List PartL} (n : Nat) (h : InvN st) (hf : findP (closesB t.name) st = none) : InvN (putP t st n).1 := by
  have hs := find_shut _ _ hf
  match st, h with
  | [], h => exact h
  | p :: r, h =>
    obtain ⟨h1, h2, h3⟩ := h
    have hh := endText_head p
    rw [putP_cons]
    split
    · exact inv_mk (p := p) hh.1 (ins_snoc _ _ _ (endText_ins h1) (.inr ⟨hs, rfl⟩)) h2 h3
    · exact ⟨rfl, fun _ => by rw [pathN_head p (endTextL p) r hh.1]; exact hs, inv_mk (p := p) hh.1 (endText_ins h1) h2 h3⟩
theorem tok_ins {s : BsL} {t : TokL} (h : InvN s.1) : InvN (tokB s t).1 := by
  obtain ⟨st, n⟩ := s
  unfold tokB
  split
  · match st, h with
    | [], h => exact h
    | p :: r, h =>
      have hk : ∀ x, InvN ({ p with tail := x } :: r) := fun x => inv_mk (p := p) rfl h.1 h.2.1 h.2.2
      rw [charsP_cons]
      split
      · split
        · exact h
        · exact hk _
      · exact hk _
  · split
    · unfold startP
      have := closeAll_ins (closesB t.name) st.length h
      split
      · exact this
      · exact put_ins _ this (closeAll_done _ _ _ (Nat.le_succ _))
    · split
      · unfold endP
        split
        · exact h
        · exact closeN_ins _ h
      · exact h
theorem fold_ins (L : List TokL) {s : BsL} (h : InvN s.1) : InvN (L.foldl tokB s).1 := by
  induction L generalizing s with
  | nil => exact h
  | cons t r ih => exact ih (tok_ins h)
theorem build_ins (L : List TokL) : insB [] (buildP L) = false := by
  have h : InvN (L.foldl tokB ([rootL], 0)).1 := fold_ins L ⟨rfl, fun h => absurd rfl h, trivial⟩
  have h0 := (fold_ok L ok_root).1.1
  unfold buildP endTree
  have hl : 0 < (L.foldl tokB ([rootL], 0)).1.length := List.length_pos_iff.2 h0
  have h1 := closeN_length ((L.foldl tokB ([rootL], 0)).1.length - 1) (L.foldl tokB ([rootL], 0)).1 (by omega)
  have h2 := closeN_ins ((L.foldl tokB ([rootL], 0)).1.length - 1) h
  match hm : closeN ((L.foldl tokB ([rootL], 0)).1.length - 1) (L.foldl tokB ([rootL], 0)).1, h1 with
  | [p], _ => rw [hm] at h2; exact endText_ins h2.1
  | [], h1 => rfl
  | _ :: _ :: _, h1 => simp only [List.length_cons] at h1; omega
end Go.Proofs.YtiejmkjpgjbodaaGreatDoor

namespace Go.Proofs.YtiejmkjpgjbodaaGreatDoor
open Go.RowKit
set_option linter.unusedVariables false
set_option linter.unusedSimpArgs false
set_option maxRecDepth 100000
section
variable {P : Program} (w : World)
theorem run_append_own2 (base : Nat) (t ty e : TypeId) (i : TypeInfo) (z : Value) (size bytes : Nat) (ht : P.underlying t = some (.slice e)) (hi : P.info? e = some i) (hz : i.zero = some z)
    (hsize : i.size = size) (hby : i.bytes = bytes) (hzs : z.cells.size = size) (hsz : 0 < size)
    (v : Value) (n : Nat) (xs : List Value) (hown : w.ownsRow base e size v n xs)
    (a : Addr) (m c : Nat) (news : List Value) (hl : news.length = m * size) (hnews : ∀ j u, news[j]? = some u → w.cell? (a.add j) = some u) (h1 : ∀ u ∈ news, u.oneCell' = true)
    (h63 : n + m ≤ maxLen) (hbytes : (n + m) * bytes ≤ 140737488355328) (hbase : base ≤ w.heap.size) :
    ∃ v' w', (Builtin.append_ #[t, t] ty #[v, .slice (some a) m c]).run P w = .ok v' w' ∧ w'.ownsRow base e size v' (n + m) (xs ++ news) ∧ w.grownBy w' v.ownBlock ∧
      (v'.ownBlock = v.ownBlock ∨ v'.ownBlock = some w.heap.size) := by
  obtain ⟨v', w', hr, h2, h3, _⟩ := run_append_own (P := P) w base t ty e i z size bytes ht hi hz hsize hby hzs hsz v n xs hown a m c news hl hnews h1 h63 hbytes hbase
  refine ⟨v', w', hr, h2, h3, ?_⟩
  have hsmall : n + m ≤ 9223372036854775807 := by simp only [maxLen] at h63; omega
  subst hsize hby
  rcases hown.2 with ⟨rfl, rfl⟩ | ⟨g, cap, cur, rfl, hbg, hg, hnc, hcm, hcs, htake⟩
  · rcases Nat.eq_zero_or_pos m with hm | hm
    · left
      have hx : w'.ownsRow base e i.size v' 0 (xs ++ news) := by simpa [hm] using h2
      rcases hx.2 with ⟨rfl, _⟩ | ⟨g, cap, cur, rfl, _⟩
      · rfl
      · exfalso
        subst hm
        have hn : news = [] := List.eq_nil_of_length_eq_zero (by simpa using hl)
        subst hn
        simp [Builtin.append_, run_underlying ht, sizeOf, typeInfo, hi, Builtin.lenOf, Builtin.firstCells, loadCells, loadCellsFrom] at hr
    · have hr2 := run_append_nil (P := P) w t ty e i z ht hi hz a m c news hl hnews hm (by omega) (by simp only [Nat.zero_add] at hbytes; omega)
      rw [hr] at hr2
      injection hr2 with e1 e2
      subst e1
      exact .inr rfl
  · by_cases hroom : n + m ≤ cap
    · obtain ⟨w2, hr2, _⟩ := run_append_fits (P := P) w base t ty e i i.size ht hi rfl g n cap xs hown a m c news hl hnews h1 hroom
      rw [hr] at hr2
      injection hr2 with e1 e2
      subst e1
      exact .inl rfl
    · have holds : ∀ j u, xs[j]? = some u → w.cell? ((⟨g, 0, none⟩ : Addr).add j) = some u := hown.cells (g := g) rfl
      have hr2 := run_append_grow (P := P) w t ty e i z ht hi hz ⟨g, 0, none⟩ n cap xs hown.1 holds a m c news hl hnews (by omega) (by omega) (growslice_fits (by omega) hbytes)
      rw [hr] at hr2
      injection hr2 with e1 e2
      subst e1
      exact .inr rfl
theorem wp_append_own2 {o : Oper} {a : Act} {K : Act → World → Prop} {Q : Exit → Act → World → Prop} (s x : Operand) (t : TypeId)
    (ho : o.op = .call { callee := .builtin .append, args := #[s, x], argTypes := #[t, t] })
    (base : Nat) (e : TypeId) (i : TypeInfo) (z : Value) (size bytes : Nat) (ht : P.underlying t = some (.slice e)) (hi : P.info? e = some i) (hz : i.zero = some z)
    (hsize : i.size = size) (hby : i.bytes = bytes) (hzs : z.cells.size = size) (hsz : 0 < size)
    (v : Value) (n : Nat) (xs : List Value) (hs : a.eval s = v) (hown : w.ownsRow base e size v n xs)
    (ad : Addr) (m c : Nat) (news : List Value) (hx : a.eval x = .slice (some ad) m c) (hl : news.length = m * size) (hnews : ∀ j u, news[j]? = some u → w.cell? (ad.add j) = some u) (h1 : ∀ u ∈ news, u.oneCell' = true)
    (h63 : n + m ≤ maxLen) (hbytes : (n + m) * bytes ≤ 140737488355328) (hbase : base ≤ w.heap.size)
    (h : ∀ v' w', w'.ownsRow base e size v' (n + m) (xs ++ news) → w.grownBy w' v.ownBlock → (v'.ownBlock = v.ownBlock ∨ v'.ownBlock = some w.heap.size) → K (a.put o.dst v') w') : o.wp P a w K Q := by
  obtain ⟨v', w', hr, h2, h3, h4⟩ := run_append_own2 (P := P) w base t o.type e i z size bytes ht hi hz hsize hby hzs hsz v n xs hown ad m c news hl hnews h1 h63 hbytes hbase
  unfold Oper.wp execOp
  simp only [ho, resolve, invoke, builtin, Sem.run_bind, Sem.run_pure, Result.andThen_ok, List.map_toArray, List.map_cons, List.map_nil, hs, hx, hr]
  exact h v' w' h2 h3 h4
end
end Go.Proofs.YtiejmkjpgjbodaaGreatDoor

namespace Go.Proofs.YtiejmkjpgjbodaaGreatDoor
open Go.RowKit
set_option linter.unusedVariables false
set_option linter.unusedSimpArgs false
set_option maxRecDepth 100000
abbrev KidV := (NdH × Tr) × (Value × Value)
def nodeVals (ks : List KidV) : List Value := ks.flatMap fun p => [.string (str p.1.1.name), p.2.1, .string (str p.1.1.text), p.2.2]
theorem nodeVals_length (ls : List KidV) : (nodeVals ls).length = ls.length * 4 := by
  induction ls with
  | nil => rfl
  | cons f r ih => unfold nodeVals at *; rw [List.flatMap_cons, List.length_append, ih]; simp; omega
theorem nodeVals_append (a b : List KidV) : nodeVals (a ++ b) = nodeVals a ++ nodeVals b := by unfold nodeVals; rw [List.flatMap_append]
structure PartV where
  name : List UInt8
  attrs : List AtL
  av : Value
  kids : List KidV
  kv : Value
  tail : List UInt8
  tv : Value
def PartV.toL (p : PartV) : PartL := ⟨p.name, p.attrs, p.kids.map Prod.fst, p.tail⟩
def partVals (ps : List PartV) : List Value := ps.flatMap fun p => [.string (str p.name), p.av, .string ⟨#[]⟩, p.kv, p.tv]
theorem partVals_length (ls : List PartV) : (partVals ls).length = ls.length * 5 := by
  induction ls with
  | nil => rfl
  | cons f r ih => unfold partVals at *; rw [List.flatMap_cons, List.length_append, ih]; simp; omega
theorem partVals_append (a b : List PartV) : partVals (a ++ b) = partVals a ++ partVals b := by unfold partVals; rw [List.flatMap_append]
theorem partVals_at (ps : List PartV) (p : PartV) (j : Nat) (hj : j < 5) (rest : List PartV) : (partVals (ps ++ p :: rest))[ps.length * 5 + j]? = [Value.string (str p.name), p.av, .string ⟨#[]⟩, p.kv, p.tv][j]? := by
  rw [partVals_append, List.getElem?_append_right (by rw [partVals_length]; omega), partVals_length, show ps.length * 5 + j - ps.length * 5 = j by omega]
  unfold partVals
  rw [List.flatMap_cons, List.getElem?_append_left (by simpa using hj)]
theorem partVals_set (ps : List PartV) (p : PartV) (j : Nat) (hj : j < 5) (u : Value) : (partVals (ps ++ [p])).set (ps.length * 5 + j) u = partVals ps ++ [Value.string (str p.name), p.av, .string ⟨#[]⟩, p.kv, p.tv].set j u := by
  rw [partVals_append, List.set_append_right _ _ (by rw [partVals_length]; omega), partVals_length, show ps.length * 5 + j - ps.length * 5 = j by omega]
  rfl
structure KRow (C : Nat → Prop) (B : Nat) (v : Value) (ks : List KidV) (w : World) : Prop where
  row : w.ownsRow B 33 4 v ks.length (nodeVals ks)
  each : ∀ q ∈ ks, AttrsC C w q.2.1 q.1.1.attrs ∧ NodesC C w q.2.2 q.1.2
  out : ∀ g, v.ownBlock = some g → ¬ C g
def Since4 (W0 w : World) : Prop := ∀ (g : Nat) (cur : Array Value) (T : TypeId) (fz : Nat × Nat), W0.heap[g]? = some (Obj.cells cur T fz) → (T ≠ 47 ∧ T ≠ 58 ∧ T ≠ 33 ∧ T ≠ 5) → w.heap[g]? = W0.heap[g]?
theorem Since4.refl (w : World) : Since4 w w := fun _ _ _ _ _ _ => rfl
theorem Since4.trans {a b c : World} (h : Since4 a b) (k : Since4 b c) : Since4 a c := fun g cur T fz hg hT => (k g cur T fz ((h g cur T fz hg hT).trans hg) hT).trans (h g cur T fz hg hT)
theorem Since4.grown {W0 w w' : World} {row : Option Nat} (h : Since4 W0 w) (hg : w.grownBy w' row) (hr : ∀ k, row = some k → ∃ (cur : Array Value) (T : TypeId) (fz : Nat × Nat), w.heap[k]? = some (Obj.cells cur T fz) ∧ (T = 47 ∨ T = 58 ∨ T = 33 ∨ T = 5)) : Since4 W0 w' := fun g cur T fz h0 hT => by
  have h1 := h g cur T fz h0 hT
  rw [hg.block g (lt_of_block (h1.trans h0)) (fun e => ?_)]
  · exact h1
  · obtain ⟨cur2, T2, fz2, h2, h3⟩ := hr g e.symm
    rw [h1.trans h0] at h2
    injection h2 with h2
    injection h2 with _ h2
    subst h2
    rcases h3 with h3 | h3 | h3 | h3
    · exact hT.1 h3
    · exact hT.2.1 h3
    · exact hT.2.2.1 h3
    · exact hT.2.2.2 h3
theorem own_ty {w : World} {B : Nat} {e : TypeId} {sz n : Nat} {v : Value} {xs : List Value} (h : w.ownsRow B e sz v n xs) {k : Nat} (hk : v.ownBlock = some k) : ∃ (cur : Array Value) (T : TypeId) (fz : Nat × Nat), w.heap[k]? = some (Obj.cells cur T fz) ∧ T = e := by
  rcases h.2 with ⟨e0, _⟩ | ⟨g, cap, cur, e0, _, hh, _⟩
  · rw [e0] at hk; cases hk
  · rw [e0] at hk
    obtain rfl : g = k := by simpa [Value.ownBlock] using hk
    exact ⟨cur, _, _, hh, rfl⟩
theorem Since4.own {W0 w w' : World} {B : Nat} {e : TypeId} {sz n : Nat} {v : Value} {xs : List Value} (h : Since4 W0 w) (ho : w.ownsRow B e sz v n xs) (hg : w.grownBy w' v.ownBlock) (he : e = 47 ∨ e = 58 ∨ e = 33 ∨ e = 5) : Since4 W0 w' :=
  h.grown hg (fun k hk => by
    obtain ⟨cur, T, fz, h1, rfl⟩ := own_ty ho hk
    exact ⟨cur, T, fz, h1, he⟩)
theorem Since4.put {W0 w : World} {b i : Nat} {u : Value} {cs : Array Value} {T : TypeId} {fz : Nat × Nat} (h : Since4 W0 w) (hb : w.heap[b]? = some (Obj.cells cs T fz)) (hT : T = 47 ∨ T = 58 ∨ T = 33 ∨ T = 5) : Since4 W0 (w.setCell ⟨b, i, none⟩ u) :=
  h.grown (row := some b) ⟨rfl, rfl, rfl, by simp [World.setCell], fun k _ hk => Below.heap_setCell _ _ _ k (fun e => hk (by rw [e]))⟩ (fun k e => by injection e with e; subst e; exact ⟨cs, T, fz, hb, hT⟩)
theorem Since4.below {W0 w w' : World} (h : Since4 W0 w) (hb : Below w.heap.size w w') : Since4 W0 w' := h.grown (row := none) ⟨hb.os, hb.tape, hb.output, hb.size, fun k hk _ => hb.block k hk⟩ (fun k e => by cases e)
structure BS (C : Nat → Prop) (B b : Nat) (r : Value) (st : List PartV) (n : Nat) (W0 w : World) : Prop where
  blk : w.heap[b]? = some (.cells #[r, .int .i64 n] 47 (0, 0))
  row : w.ownsRow B 58 5 r st.length (partVals st.reverse)
  attrs : ∀ p ∈ st, AttrsC C w p.av p.attrs
  kids : ∀ p ∈ st, KRow C B p.kv p.kids w
  apart : st.Pairwise (fun p q => p.kv.ownBlock = none ∨ p.kv.ownBlock ≠ q.kv.ownBlock)
  tails : ∀ p ∈ st, w.ownsRow B 5 1 p.tv p.tail.length (cellsOf p.tail) ∧ (p.tail = [] → p.tv = .slice none 0 0)
  quiet : ∀ p ∈ st.tail, p.tail = []
  typ : ∀ g, C g → g < w.heap.size ∧ ∀ cur T fz, w.heap[g]? = some (.cells cur T fz) → T = 33 ∨ T = 43
  base : B ≤ b
  below : Below B W0 w
  size : B ≤ w.heap.size
  since : Since4 W0 w
theorem grown_none {w w' : World} (hb : Below w.heap.size w w') : w.grownBy w' none := ⟨hb.os, hb.tape, hb.output, hb.size, fun k hk _ => hb.block k hk⟩
theorem own_type {w w' : World} {B k : Nat} {e : TypeId} {sz n : Nat} {v : Value} {xs : List Value} (h : w.ownsRow B e sz v n xs) (hg : w.grownBy w' (some k)) (ht : ∀ cur, w.heap[k]? ≠ some (.cells cur e (0, 0))) : w'.ownsRow B e sz v n xs :=
  h.kept hg (.inr (ownsRow_other h ht))
theorem KRow.turned {C : Nat → Prop} {B : Nat} {v : Value} {ks : List KidV} {w w' : World} {row : Option Nat} (h : KRow C B v ks w) (hg : w.grownBy w' row) (hC : ∀ k, C k → k < w.heap.size) (hr : ∀ k, row = some k → ¬ C k) (hne : v.ownBlock = none ∨ v.ownBlock ≠ row) : KRow C B v ks w' := by
  have hk : ∀ b, C b → w'.heap[b]? = w.heap[b]? := fun b hb => hg.block b (hC b hb) (fun e => hr b e.symm hb)
  exact ⟨h.row.kept hg hne, fun q hq => ⟨(h.each q hq).1.mono hk (fun _ x => x), (h.each q hq).2.mono hk (fun _ x => x)⟩, h.out⟩
theorem BS.turned {C : Nat → Prop} {B b : Nat} {r : Value} {st : List PartV} {n : Nat} {W0 w w' : World} {row : Option Nat} (h : BS C B b r st n W0 w) (hs4 : Since4 W0 w') (hg : w.grownBy w' row)
    (hr : ∀ k, row = some k → B ≤ k ∧ k ≠ b ∧ ¬ C k ∧ ∀ cur, w.heap[k]? ≠ some (.cells cur 58 (0, 0)) ∧ w.heap[k]? ≠ some (.cells cur 33 (0, 0)) ∧ w.heap[k]? ≠ some (.cells cur 5 (0, 0))) : BS C B b r st n W0 w' := by
  have hC : ∀ k, C k → k < w.heap.size := fun k hk => (h.typ k hk).1
  have hk : ∀ g, C g → w'.heap[g]? = w.heap[g]? := fun g hgC => hg.block g (hC g hgC) (fun e => (hr g e.symm).2.2.1 hgC)
  have hown : ∀ {e : TypeId} {sz m : Nat} {v : Value} {xs : List Value}, w.ownsRow B e sz v m xs → (∀ k, row = some k → ∀ cur, w.heap[k]? ≠ some (.cells cur e (0, 0))) → v.ownBlock = none ∨ v.ownBlock ≠ row := fun {e sz m v xs} ho ht => by
    cases row with
    | none => cases hv : v.ownBlock <;> simp
    | some k => exact .inr (ownsRow_other ho (ht k rfl))
  refine ⟨?_, h.row.kept hg (hown h.row fun k e cur => ((hr k e).2.2.2 cur).1), fun p hp => (h.attrs p hp).mono hk (fun _ x => x), fun p hp => (h.kids p hp).turned hg hC (fun k e => (hr k e).2.2.1) (hown (h.kids p hp).row fun k e cur => ((hr k e).2.2.2 cur).2.1), h.apart,
    fun p hp => ⟨(h.tails p hp).1.kept hg (hown (h.tails p hp).1 fun k e cur => ((hr k e).2.2.2 cur).2.2), (h.tails p hp).2⟩, h.quiet, fun g hgC => ⟨Nat.lt_of_lt_of_le (hC g hgC) hg.size, by rw [hk g hgC]; exact (h.typ g hgC).2⟩, h.base, h.below.grown hg h.size (fun k e => (hr k e).1), Nat.le_trans h.size hg.size, hs4⟩
  rw [hg.block b (lt_of_block h.blk) (fun e => (hr b e.symm).2.1 rfl)]
  exact h.blk
theorem BS.kept {C : Nat → Prop} {B b : Nat} {r : Value} {st : List PartV} {n : Nat} {W0 w w' : World} (h : BS C B b r st n W0 w) (hb : Below w.heap.size w w') : BS C B b r st n W0 w' := h.turned (h.since.below hb) (grown_none hb) (fun k e => by cases e)
theorem BS.c0 {C : Nat → Prop} {B b : Nat} {r : Value} {st : List PartV} {n : Nat} {W0 w : World} (h : BS C B b r st n W0 w) : w.cell? ⟨b, 0, none⟩ = some r := by rw [Lib.cell_of_heap h.blk]; rfl
theorem BS.c1 {C : Nat → Prop} {B b : Nat} {r : Value} {st : List PartV} {n : Nat} {W0 w : World} (h : BS C B b r st n W0 w) : w.cell? ⟨b, 1, none⟩ = some (.int .i64 n) := by rw [Lib.cell_of_heap h.blk]; rfl
theorem BS.free {C : Nat → Prop} {B b : Nat} {r : Value} {st : List PartV} {n : Nat} {W0 w : World} (h : BS C B b r st n W0 w) (i : Nat) : w.frozen? ⟨b, i, none⟩ = false := Lib.frozen_of_heap h.blk i
theorem BS.form {C : Nat → Prop} {B b : Nat} {r : Value} {st : List PartV} {n : Nat} {W0 w : World} (h : BS C B b r st n W0 w) (hs : st ≠ []) : ∃ g cap, r = .slice (some ⟨g, 0, none⟩) st.length cap ∧ st.length ≤ cap ∧ cap ≤ maxLen ∧ B ≤ g ∧ g < w.heap.size := by
  rcases h.row.2 with ⟨rfl, h0⟩ | ⟨g, cap, cur, rfl, hg, hh, hc, hm, _⟩
  · exact absurd (List.eq_nil_of_length_eq_zero h0) hs
  · exact ⟨g, cap, rfl, hc, hm, hg, lt_of_block hh⟩
theorem BS.cells {C : Nat → Prop} {B b g cap : Nat} {p : PartV} {rest : List PartV} {n : Nat} {W0 w : World} (h : BS C B b (.slice (some ⟨g, 0, none⟩) (rest.length + 1) cap) (p :: rest) n W0 w) :
    w.cell? ⟨g, rest.length * 5, none⟩ = some (.string (str p.name)) ∧ w.cell? ⟨g, rest.length * 5 + 1, none⟩ = some p.av ∧ w.cell? ⟨g, rest.length * 5 + 2, none⟩ = some (.string ⟨#[]⟩) ∧ w.cell? ⟨g, rest.length * 5 + 3, none⟩ = some p.kv ∧ w.cell? ⟨g, rest.length * 5 + 4, none⟩ = some p.tv ∧ (∀ i, w.frozen? ⟨g, i, none⟩ = false) := by
  have hr := h.row
  rw [List.length_cons] at hr
  have hc : ∀ j, j < 5 → w.cell? ⟨g, rest.length * 5 + j, none⟩ = [Value.string (str p.name), p.av, .string ⟨#[]⟩, p.kv, p.tv][j]? := fun j hj => by
    rw [hr.cellAt _ (by omega)]
    have := partVals_at rest.reverse p j hj []
    rw [List.length_reverse] at this
    rw [List.reverse_cons]; exact this
  exact ⟨hc 0 (by decide), hc 1 (by decide), hc 2 (by decide), hc 3 (by decide), hc 4 (by decide), fun i => hr.frozenAt i⟩
theorem BS.rowOut {C : Nat → Prop} {B b g m cap : Nat} {st : List PartV} {n : Nat} {W0 w : World} (h : BS C B b (.slice (some ⟨g, 0, none⟩) m cap) st n W0 w) : g ≠ b ∧ ¬ C g ∧ B ≤ g ∧ ∀ (cur : Array Value) (e : TypeId), e ≠ 58 → w.heap[g]? ≠ some (.cells cur e (0, 0)) := by
  rcases h.row.2 with ⟨h0, _⟩ | ⟨g', cap', cur, h0, hg, hh, hc, hm, _⟩
  · cases h0
  · injection h0 with h0 _ _
    injection h0 with h0
    injection h0 with h0
    subst h0
    refine ⟨fun e => ?_, fun hC => ?_, hg, fun cur' e he hx => ?_⟩
    · have := h.blk
      rw [← e, hh] at this
      injection this with this
      injection this with _ this
      exact absurd this (by decide)
    · rcases (h.typ g hC).2 _ _ _ hh with e | e
      · exact absurd e (by decide)
      · exact absurd e (by decide)
    · rw [hh] at hx
      injection hx with hx
      injection hx with _ hx
      exact he hx.symm
theorem BS.put {C : Nat → Prop} {B b g cap : Nat} {p : PartV} {rest : List PartV} {n : Nat} {W0 w : World} (h : BS C B b (.slice (some ⟨g, 0, none⟩) (rest.length + 1) cap) (p :: rest) n W0 w) (p' : PartV) (j : Nat) (u : Value) (hj : j < 5)
    (he : [Value.string (str p.name), p.av, .string ⟨#[]⟩, p.kv, p.tv].set j u = [Value.string (str p'.name), p'.av, .string ⟨#[]⟩, p'.kv, p'.tv]) :
    (w.setCell ⟨g, rest.length * 5 + j, none⟩ u).ownsRow B 58 5 (.slice (some ⟨g, 0, none⟩) (rest.length + 1) cap) (rest.length + 1) (partVals (p' :: rest).reverse) ∧ w.grownBy (w.setCell ⟨g, rest.length * 5 + j, none⟩ u) (some g) := by
  have hr := h.row
  rw [List.length_cons] at hr
  obtain ⟨r1, r2⟩ := hr.stored (rest.length * 5 + j) u
  refine ⟨?_, r2⟩
  rw [List.reverse_cons] at r1 ⊢
  have e1 := partVals_set rest.reverse p j hj u
  rw [List.length_reverse] at e1
  rw [e1, he] at r1
  rw [partVals_append]
  exact r1
end Go.Proofs.YtiejmkjpgjbodaaGreatDoor

namespace Go.Proofs.YtiejmkjpgjbodaaGreatDoor
open Go.RowKit
set_option linter.unusedVariables false
set_option linter.unusedSimpArgs false
set_option maxRecDepth 100000
theorem heap_put0 {w : World} {b i : Nat} {cs : Array Value} {T : TypeId} (h : w.heap[b]? = some (.cells cs T (0, 0))) (u : Value) : (w.setCell ⟨b, i, none⟩ u).heap[b]? = some (.cells (cs.setIfInBounds i u) T (0, 0)) := heap_put u h
theorem grown_put (w : World) (b i : Nat) (u : Value) : w.grownBy (w.setCell ⟨b, i, none⟩ u) (some b) :=
  ⟨rfl, rfl, rfl, by simp [World.setCell], fun k _ hk => Below.heap_setCell _ _ _ k (fun e => hk (by rw [e]))⟩
theorem same_put {w : World} {b i : Nat} {u : Value} {C : Nat → Prop} (hC : ¬ C b) : ∀ g, C g → (w.setCell ⟨b, i, none⟩ u).heap[g]? = w.heap[g]? := fun g hg => Below.heap_setCell _ _ _ g (fun e => hC (by rw [← show g = b from e]; exact hg))
theorem BS.out {C : Nat → Prop} {B b : Nat} {r : Value} {st : List PartV} {n : Nat} {W0 w : World} (h : BS C B b r st n W0 w) : ¬ C b ∧ ∀ (cur : Array Value) (e : TypeId), e ≠ 47 → w.heap[b]? ≠ some (.cells cur e (0, 0)) := by
  refine ⟨fun hC => ?_, fun cur e he hx => ?_⟩
  · rcases (h.typ b hC).2 _ _ _ h.blk with e | e
    · exact absurd e (by decide)
    · exact absurd e (by decide)
  · rw [h.blk] at hx
    injection hx with hx
    injection hx with _ hx
    exact he hx.symm
theorem BS.putB {C : Nat → Prop} {B b : Nat} {r : Value} {st : List PartV} {n : Nat} {W0 w : World} (h : BS C B b r st n W0 w) (i : Nat) (u r' : Value) (n' : Nat)
    (he : (#[r, .int .i64 n] : Array Value).setIfInBounds i u = #[r', .int .i64 n']) (hr : w.ownsRow B 58 5 r' st.length (partVals st.reverse)) : BS C B b r' st n' W0 (w.setCell ⟨b, i, none⟩ u) := by
  have hg := grown_put w b i u
  have ho := h.out
  have hown : ∀ {e : TypeId} {sz m : Nat} {v : Value} {xs : List Value}, e ≠ 47 → w.ownsRow B e sz v m xs → (w.setCell ⟨b, i, none⟩ u).ownsRow B e sz v m xs := fun {e sz m v xs} h1 hx => own_type hx hg (fun cur => ho.2 cur e h1)
  have hk := same_put (w := w) (i := i) (u := u) ho.1
  refine ⟨by rw [heap_put0 h.blk, he], hown (by decide) hr, fun p hp => (h.attrs p hp).mono hk (fun _ x => x), fun p hp => ⟨hown (by decide) (h.kids p hp).row, fun q hq => ⟨((h.kids p hp).each q hq).1.mono hk (fun _ x => x), ((h.kids p hp).each q hq).2.mono hk (fun _ x => x)⟩, (h.kids p hp).out⟩, h.apart,
    fun p hp => ⟨hown (by decide) (h.tails p hp).1, (h.tails p hp).2⟩, h.quiet, fun g hgC => ⟨by have := (h.typ g hgC).1; simpa [World.setCell] using this, by rw [hk g hgC]; exact (h.typ g hgC).2⟩, h.base, h.below.setCell (p := ⟨b, i, none⟩) h.base u, by simpa [World.setCell] using h.size, h.since.put h.blk (.inl rfl)⟩
theorem BS.setCount {C : Nat → Prop} {B b : Nat} {r : Value} {st : List PartV} {n : Nat} {W0 w : World} (h : BS C B b r st n W0 w) (m : Nat) : BS C B b r st m W0 (w.setCell ⟨b, 1, none⟩ (.int .i64 m)) := h.putB 1 _ r m rfl h.row
theorem BS.putP {C : Nat → Prop} {B b g cap : Nat} {p : PartV} {rest : List PartV} {n : Nat} {W0 w : World} (h : BS C B b (.slice (some ⟨g, 0, none⟩) (rest.length + 1) cap) (p :: rest) n W0 w) (p' : PartV) (j : Nat) (u : Value) (hj : j < 5)
    (he : [Value.string (str p.name), p.av, .string ⟨#[]⟩, p.kv, p.tv].set j u = [Value.string (str p'.name), p'.av, .string ⟨#[]⟩, p'.kv, p'.tv]) (hv : p'.av = p.av) (ha : p'.attrs = p.attrs)
    (hk : KRow C B p'.kv p'.kids w) (hap : ∀ q ∈ rest, p'.kv.ownBlock = none ∨ p'.kv.ownBlock ≠ q.kv.ownBlock) (ht : w.ownsRow B 5 1 p'.tv p'.tail.length (cellsOf p'.tail) ∧ (p'.tail = [] → p'.tv = .slice none 0 0)) :
    BS C B b (.slice (some ⟨g, 0, none⟩) (rest.length + 1) cap) (p' :: rest) n W0 (w.setCell ⟨g, rest.length * 5 + j, none⟩ u) := by
  obtain ⟨o1, hg⟩ := h.put p' j u hj he
  obtain ⟨q1, q2, q3, q4⟩ := h.rowOut
  have hown : ∀ {e : TypeId} {sz m : Nat} {v : Value} {xs : List Value}, e ≠ 58 → w.ownsRow B e sz v m xs → (w.setCell ⟨g, rest.length * 5 + j, none⟩ u).ownsRow B e sz v m xs := fun {e sz m v xs} h1 hx => own_type hx hg (fun cur => q4 cur e h1)
  have hkp := same_put (w := w) (i := rest.length * 5 + j) (u := u) q2
  have hK : ∀ {v : Value} {ks : List KidV}, KRow C B v ks w → KRow C B v ks (w.setCell ⟨g, rest.length * 5 + j, none⟩ u) := fun {v ks} hx => ⟨hown (by decide) hx.row, fun q hq => ⟨(hx.each q hq).1.mono hkp (fun _ x => x), (hx.each q hq).2.mono hkp (fun _ x => x)⟩, hx.out⟩
  have hr : ∀ q ∈ rest, q ∈ p :: rest := fun q hq => List.mem_cons_of_mem _ hq
  refine ⟨?_, o1, ?_, ?_, ?_, ?_, h.quiet, fun x hx => ⟨by have := (h.typ x hx).1; simpa [World.setCell] using this, by rw [hkp x hx]; exact (h.typ x hx).2⟩, h.base, h.below.setCell (p := ⟨g, rest.length * 5 + j, none⟩) q3 u, by simpa [World.setCell] using h.size, h.since.own h.row hg (.inr (.inl rfl))⟩
  · rw [hg.block b (lt_of_block h.blk) (fun e => q1 (Option.some.inj e).symm)]
    exact h.blk
  · intro q hq
    rcases List.mem_cons.1 hq with rfl | hq
    · rw [hv, ha]; exact (h.attrs p (List.mem_cons_self ..)).mono hkp (fun _ x => x)
    · exact (h.attrs q (hr q hq)).mono hkp (fun _ x => x)
  · intro q hq
    rcases List.mem_cons.1 hq with rfl | hq
    · exact hK hk
    · exact hK (h.kids q (hr q hq))
  · exact List.pairwise_cons.2 ⟨hap, (List.pairwise_cons.1 h.apart).2⟩
  · intro q hq
    rcases List.mem_cons.1 hq with rfl | hq
    · exact ⟨hown (by decide) ht.1, ht.2⟩
    · exact ⟨hown (by decide) (h.tails q (hr q hq)).1, (h.tails q (hr q hq)).2⟩
theorem BS.pushKid {C : Nat → Prop} {B b g cap : Nat} {p : PartV} {rest : List PartV} {n : Nat} {W0 w w3 : World} {v' : Value} {q : KidV} (h : BS C B b (.slice (some ⟨g, 0, none⟩) (rest.length + 1) cap) (p :: rest) n W0 w)
    (ho : w3.ownsRow B 33 4 v' (p.kids.length + 1) (nodeVals (p.kids ++ [q]))) (hg : w.grownBy w3 p.kv.ownBlock) (hv : v'.ownBlock = p.kv.ownBlock ∨ v'.ownBlock = some w.heap.size)
    (hq : AttrsC C w q.2.1 q.1.1.attrs ∧ NodesC C w q.2.2 q.1.2) :
    BS C B b (.slice (some ⟨g, 0, none⟩) (rest.length + 1) cap) ({ p with kids := p.kids ++ [q], kv := v' } :: rest) n W0 (w3.setCell ⟨g, rest.length * 5 + 3, none⟩ v') := by
  have hkp := h.kids p (List.mem_cons_self ..)
  have hC : ∀ k, C k → k < w.heap.size := fun k hk => (h.typ k hk).1
  have hk : ∀ x, C x → w3.heap[x]? = w.heap[x]? := fun x hx => hg.block x (hC x hx) (fun e => hkp.out x e.symm hx)
  have hown : ∀ {e : TypeId} {sz m : Nat} {v : Value} {xs : List Value}, e ≠ 33 → w.ownsRow B e sz v m xs → w3.ownsRow B e sz v m xs := fun {e sz m v xs} h1 hx => hx.kept hg (ownsRow_diff h1 hx hkp.row)
  have hb : ∀ k (cur : Array Value) (e : TypeId), e ≠ 33 → w.heap[k]? = some (Obj.cells cur e (0, 0)) → w3.heap[k]? = w.heap[k]? := fun k cur e h1 hx => hg.block k (lt_of_block hx) (fun e2 => by
    have := ownsRow_other hkp.row (r := k) (fun cur' h2 => by
      rw [hx] at h2
      injection h2 with h2
      injection h2 with _ h2
      exact h1 h2)
    exact this e2.symm)
  have hcl : ∀ x ∈ rest, p.kv.ownBlock = none ∨ p.kv.ownBlock ≠ x.kv.ownBlock := (List.pairwise_cons.1 h.apart).1
  have hne : ∀ x ∈ rest, x.kv.ownBlock = none ∨ x.kv.ownBlock ≠ p.kv.ownBlock := fun x hx => by
    rcases hcl x hx with e | e
    · rw [e]
      cases x.kv.ownBlock with
      | none => exact .inl rfl
      | some k => exact .inr (by simp)
    · exact .inr (fun e2 => e e2.symm)
  have hK : ∀ x ∈ rest, KRow C B x.kv x.kids w3 := fun x hx => (h.kids x (List.mem_cons_of_mem _ hx)).turned hg hC (fun k e hc => hkp.out k e hc) (hne x hx)
  have hrow := h.row
  rw [List.length_cons] at hrow
  have hrow3 := hown (by decide) hrow
  have hvals : partVals (p :: rest).reverse = partVals (({ p with kids := p.kids ++ [q], kv := p.kv } : PartV) :: rest).reverse := by
    rw [List.reverse_cons, List.reverse_cons, partVals_append, partVals_append]; rfl
  have hout3 : g ≠ b ∧ ¬ C g ∧ B ≤ g ∧ ∀ (cur : Array Value) (e : TypeId), e ≠ 58 → w3.heap[g]? ≠ some (.cells cur e (0, 0)) := by
    obtain ⟨q1, q2, q3, q4⟩ := h.rowOut
    refine ⟨q1, q2, q3, fun cur e h1 hx => ?_⟩
    rcases hrow3.2 with ⟨h0, _⟩ | ⟨g', cap', cur', h0, _, hh, _⟩
    · cases h0
    · injection h0 with h0 _ _
      injection h0 with h0
      injection h0 with h0
      subst h0
      rw [hh] at hx
      injection hx with hx
      injection hx with _ hx
      exact h1 hx.symm
  obtain ⟨q1, q2, q3, q4⟩ := hout3
  obtain ⟨r1, hgp⟩ := hrow3.stored (rest.length * 5 + 3) v'
  have hown4 : ∀ {e : TypeId} {sz m : Nat} {v : Value} {xs : List Value}, e ≠ 58 → w3.ownsRow B e sz v m xs → (w3.setCell ⟨g, rest.length * 5 + 3, none⟩ v').ownsRow B e sz v m xs := fun {e sz m v xs} h1 hx => own_type hx hgp (fun cur => q4 cur e h1)
  have hk4 := same_put (w := w3) (i := rest.length * 5 + 3) (u := v') q2
  have hk5 : ∀ x, C x → (w3.setCell ⟨g, rest.length * 5 + 3, none⟩ v').heap[x]? = w.heap[x]? := fun x hx => (hk4 x hx).trans (hk x hx)
  have hC3 : ∀ k, C k → k < w3.heap.size := fun k hx => Nat.lt_of_lt_of_le (hC k hx) hg.size
  have hrm : ∀ x ∈ rest, x ∈ p :: rest := fun x hx => List.mem_cons_of_mem _ hx
  have hvo : ∀ k, v'.ownBlock = some k → ¬ C k := fun k e hc => by
    rcases hv with e1 | e1
    · exact hkp.out k (e1.symm.trans e) hc
    · rw [e1] at e
      injection e with e
      exact Nat.lt_irrefl _ (e ▸ hC k hc)
  refine ⟨?_, ?_, ?_, ?_, ?_, ?_, h.quiet, fun x hx => ⟨by have := hC3 x hx; simpa [World.setCell] using this, by rw [hk5 x hx]; exact (h.typ x hx).2⟩, h.base, (h.below.grown hg h.size (fun k e => (hkp.row.lt k e).1)).setCell (p := ⟨g, rest.length * 5 + 3, none⟩) q3 v', by have := Nat.le_trans h.size hg.size; simpa [World.setCell] using this, (h.since.own hkp.row hg (.inr (.inr (.inl rfl)))).own hrow3 hgp (.inr (.inl rfl))⟩
  · rw [hgp.block b (Nat.lt_of_lt_of_le (lt_of_block h.blk) hg.size) (fun e => q1 (Option.some.inj e).symm), hb b _ 47 (by decide) h.blk]
    exact h.blk
  · rw [hvals] at r1
    rw [List.reverse_cons] at r1 ⊢
    have e1 := partVals_set rest.reverse ({ p with kids := p.kids ++ [q], kv := p.kv } : PartV) 3 (by decide) v'
    rw [List.length_reverse] at e1
    rw [e1] at r1
    rw [partVals_append]
    exact r1
  · intro x hx
    rcases List.mem_cons.1 hx with rfl | hx
    · exact (h.attrs p (List.mem_cons_self ..)).mono hk5 (fun _ x => x)
    · exact (h.attrs x (hrm x hx)).mono hk5 (fun _ x => x)
  · intro x hx
    rcases List.mem_cons.1 hx with rfl | hx
    · refine ⟨hown4 (by decide) (by rw [List.length_append]; exact ho), fun y hy => ?_, hvo⟩
      rcases List.mem_append.1 hy with hy | hy
      · exact ⟨(hkp.each y hy).1.mono hk5 (fun _ x => x), (hkp.each y hy).2.mono hk5 (fun _ x => x)⟩
      · obtain rfl := List.mem_singleton.1 hy
        exact ⟨hq.1.mono hk5 (fun _ x => x), hq.2.mono hk5 (fun _ x => x)⟩
    · have := hK x hx
      exact ⟨hown4 (by decide) this.row, fun y hy => ⟨(this.each y hy).1.mono hk4 (fun _ x => x), (this.each y hy).2.mono hk4 (fun _ x => x)⟩, this.out⟩
  · refine List.pairwise_cons.2 ⟨fun x hx => ?_, (List.pairwise_cons.1 h.apart).2⟩
    show v'.ownBlock = none ∨ v'.ownBlock ≠ x.kv.ownBlock
    rcases hv with e | e
    · rw [e]; exact hcl x hx
    · rw [e]
      right
      intro e2
      exact Nat.lt_irrefl _ ((h.kids x (hrm x hx)).row.lt _ e2.symm).2
  · intro x hx
    rcases List.mem_cons.1 hx with rfl | hx
    · have := h.tails p (List.mem_cons_self ..)
      exact ⟨hown4 (by decide) (hown (by decide) this.1), this.2⟩
    · have := h.tails x (hrm x hx)
      exact ⟨hown4 (by decide) (hown (by decide) this.1), this.2⟩
theorem KRow.nodes {C C' : Nat → Prop} {B : Nat} {v : Value} {ks : List KidV} {w : World} (h : KRow C B v ks w) (hC : ∀ b, C b → C' b) (hv : ∀ k, v.ownBlock = some k → C' k) : NodesC C' w v (Tr.of (ks.map Prod.fst)) := by
  rcases h.row.2 with ⟨rfl, h0⟩ | ⟨g, cap, cur, rfl, hg, hh, h1, h2, h3, h4⟩
  · have := List.eq_nil_of_length_eq_zero h0
    subst this
    exact .inl ⟨rfl, rfl⟩
  · have hl : (Tr.of (ks.map Prod.fst)).len = ks.length := by rw [Tr.len_of, List.length_map]
    refine .inr ⟨⟨g, 0, none⟩, cap, by rw [hl], by rw [hl]; exact h1, h2, ?_⟩
    have hcell : ∀ j u, (nodeVals ks)[j]? = some u → w.cell? ((⟨g, 0, none⟩ : Addr).add j) = some u := h.row.cells (g := g) rfl
    have hCg : C' g := hv g rfl
    have main : ∀ (l pre : List KidV), ks = pre ++ l → NodesAt C' w (Tr.of (l.map Prod.fst)) ((⟨g, 0, none⟩ : Addr).add (pre.length * 4)) := by
      intro l
      induction l with
      | nil => intro pre _; exact trivial
      | cons q l ih =>
        intro pre hpre
        obtain ⟨⟨hd, T⟩, va, vk⟩ := q
        have hat : ∀ j, j < 4 → (nodeVals ks)[pre.length * 4 + j]? = [Value.string (str hd.name), va, .string (str hd.text), vk][j]? := fun j hj => by
          rw [hpre, nodeVals_append, List.getElem?_append_right (by rw [nodeVals_length]; omega), nodeVals_length, show pre.length * 4 + j - pre.length * 4 = j by omega]
          unfold nodeVals
          rw [List.flatMap_cons, List.getElem?_append_left (by simpa using hj)]
        have hm := h.each ((hd, T), (va, vk)) (by rw [hpre]; exact List.mem_append.2 (.inr (List.mem_cons_self ..)))
        have c0 := hcell _ _ (hat 0 (by decide))
        have c1 := hcell _ _ (hat 1 (by decide))
        have c2 := hcell _ _ (hat 2 (by decide))
        have c3 := hcell _ _ (hat 3 (by decide))
        rw [← Addr.add_add] at c1 c2 c3
        refine ⟨by rw [addr_add_block]; exact hCg, c0, c2, ⟨va, c1, hm.1.mono (fun _ _ => rfl) hC⟩, ⟨vk, c3, hm.2.mono (fun _ _ => rfl) hC⟩, ?_⟩
        have := ih (pre ++ [((hd, T), (va, vk))]) (by rw [hpre]; simp)
        rw [List.length_append, Nat.add_mul] at this
        rw [Addr.add_add]
        exact this
    have := main ks [] rfl
    rw [List.length_nil, Nat.zero_mul, Addr.add_zero'] at this
    exact this
theorem BS.shrink {C : Nat → Prop} {B b g cap : Nat} {p q : PartV} {rest : List PartV} {n : Nat} {W0 w : World} (h : BS C B b (.slice (some ⟨g, 0, none⟩) (rest.length + 1 + 1) cap) (p :: q :: rest) n W0 w) :
    ∃ C' : Nat → Prop, BS C' B b (.slice (some ⟨g, 0, none⟩) (rest.length + 1) cap) (q :: rest) n W0 (w.setCell ⟨b, 0, none⟩ (.slice (some ⟨g, 0, none⟩) (rest.length + 1) cap)) ∧
      AttrsC C' (w.setCell ⟨b, 0, none⟩ (.slice (some ⟨g, 0, none⟩) (rest.length + 1) cap)) p.av p.attrs ∧ NodesC C' (w.setCell ⟨b, 0, none⟩ (.slice (some ⟨g, 0, none⟩) (rest.length + 1) cap)) p.kv (Tr.of (p.kids.map Prod.fst)) := by
  have hkp := h.kids p (List.mem_cons_self ..)
  have hrm : ∀ x ∈ q :: rest, x ∈ p :: q :: rest := fun x hx => List.mem_cons_of_mem _ hx
  have hrow := h.row
  -- the shorter row
  have hshort : w.ownsRow B 58 5 (.slice (some ⟨g, 0, none⟩) (rest.length + 1) cap) (q :: rest).length (partVals (q :: rest).reverse) := by
    refine ⟨by rw [partVals_length, List.length_reverse], ?_⟩
    rcases hrow.2 with ⟨h0, _⟩ | ⟨g', cap', cur, h0, hg, hh, h1, h2, h3, h4⟩
    · cases h0
    · injection h0 with e1 e2 e3
      injection e1 with e1
      injection e1 with e1
      subst e1 e3
      refine .inr ⟨g, cap, cur, rfl, hg, hh, by simp only [List.length_cons] at h1 ⊢; omega, h2, h3, ?_⟩
      have e5 := congrArg (List.take ((q :: rest).length * 5)) h4
      rw [List.take_take, Nat.min_eq_left (by simp only [List.length_cons]; omega)] at e5
      rw [e5, List.reverse_cons, partVals_append]
      have hl : (partVals (q :: rest).reverse).length = (q :: rest).length * 5 := by rw [partVals_length, List.length_reverse]
      rw [List.take_append_of_le_length (Nat.le_of_eq hl.symm), ← hl, List.take_length]
  obtain ⟨C', hC'⟩ : ∃ C' : Nat → Prop, C' = fun x => C x ∨ p.kv.ownBlock = some x := ⟨_, rfl⟩
  have hsub : ∀ x, C x → C' x := fun x hx => by rw [hC']; exact .inl hx
  have hv : ∀ k, p.kv.ownBlock = some k → C' k := fun k e => by rw [hC']; exact .inr e
  have hcl := (List.pairwise_cons.1 h.apart).1
  have hbs : BS C' B b (.slice (some ⟨g, 0, none⟩) (rest.length + 1) cap) (q :: rest) n W0 (w.setCell ⟨b, 0, none⟩ (.slice (some ⟨g, 0, none⟩) (rest.length + 1) cap)) := by
    have ho := h.out
    have hnb : ¬ C' b := by
      rw [hC']
      rintro (hx | hx)
      · exact ho.1 hx
      · exact absurd hx (fun e => (ownsRow_other hkp.row (r := b) (fun cur hb => ho.2 cur _ (by decide) hb)) e)
    have hgp := grown_put w b 0 (.slice (some ⟨g, 0, none⟩) (rest.length + 1) cap)
    have hown : ∀ {e : TypeId} {sz m : Nat} {v : Value} {xs : List Value}, e ≠ 47 → w.ownsRow B e sz v m xs → (w.setCell ⟨b, 0, none⟩ (.slice (some ⟨g, 0, none⟩) (rest.length + 1) cap)).ownsRow B e sz v m xs := fun {e sz m v xs} h1 hx => own_type hx hgp (fun cur => ho.2 cur e h1)
    have hk := same_put (w := w) (i := 0) (u := .slice (some ⟨g, 0, none⟩) (rest.length + 1) cap) hnb
    have hk0 : ∀ x, C x → (w.setCell ⟨b, 0, none⟩ (.slice (some ⟨g, 0, none⟩) (rest.length + 1) cap)).heap[x]? = w.heap[x]? := fun x hx => hk x (hsub x hx)
    refine ⟨by rw [heap_put0 h.blk]; rfl, hown (by decide) hshort, fun x hx => (h.attrs x (hrm x hx)).mono hk0 hsub, fun x hx => ?_, (List.pairwise_cons.1 h.apart).2, fun x hx => ⟨hown (by decide) (h.tails x (hrm x hx)).1, (h.tails x (hrm x hx)).2⟩,
      fun x hx => h.quiet x (by simpa using List.mem_cons_of_mem _ hx), fun x hx => ?_, h.base, h.below.setCell (p := ⟨b, 0, none⟩) h.base _, by simpa [World.setCell] using h.size, h.since.put h.blk (.inl rfl)⟩
    · have hx2 := h.kids x (hrm x hx)
      refine ⟨hown (by decide) hx2.row, fun y hy => ⟨(hx2.each y hy).1.mono hk0 hsub, (hx2.each y hy).2.mono hk0 hsub⟩, fun k e => ?_⟩
      rw [hC']
      rintro (hc | hc)
      · exact hx2.out k e hc
      · rcases hcl x hx with e1 | e1
        · rw [e1] at hc; cases hc
        · exact e1 (hc.trans e.symm)
    · rw [hk x hx]
      rw [hC'] at hx
      rcases hx with hx | hx
      · exact ⟨by have := (h.typ x hx).1; simpa [World.setCell] using this, (h.typ x hx).2⟩
      · refine ⟨by have := (hkp.row.lt x hx).2; simpa [World.setCell] using this, fun cur T fz hh => ?_⟩
        rcases hkp.row.2 with ⟨e0, _⟩ | ⟨g', cap', cur', e0, _, hh', _⟩
        · rw [e0] at hx; cases hx
        · rw [e0] at hx
          obtain rfl : g' = x := by simpa [Value.ownBlock] using hx
          rw [hh'] at hh
          injection hh with hh
          injection hh with _ hh
          exact .inl hh.symm
  have hnb2 : ¬ C' b := hbs.out.1
  have hk2 := same_put (w := w) (i := 0) (u := .slice (some ⟨g, 0, none⟩) (rest.length + 1) cap) hnb2
  exact ⟨C', hbs, (h.attrs p (List.mem_cons_self ..)).mono (fun x hx => hk2 x (hsub x hx)) hsub, (hkp.nodes hsub hv).mono hk2 (fun _ x => x)⟩
theorem BS.pushPart {C : Nat → Prop} {B b : Nat} {r r' : Value} {st : List PartV} {n : Nat} {W0 w w2 : World} (h : BS C B b r st n W0 w) (nm : List UInt8) (ats : List AtL) (av : Value) (ha : AttrsC C w av ats) (hq : ∀ p ∈ st, p.tail = [])
    (ho : w2.ownsRow B 58 5 r' (st.length + 1) (partVals st.reverse ++ partVals [⟨nm, ats, av, [], .slice none 0 0, [], .slice none 0 0⟩])) (hg : w.grownBy w2 r.ownBlock) :
    BS C B b r' (⟨nm, ats, av, [], .slice none 0 0, [], .slice none 0 0⟩ :: st) n W0 (w2.setCell ⟨b, 0, none⟩ r') := by
  have hC : ∀ k, C k → k < w.heap.size := fun k hk => (h.typ k hk).1
  have hrC : ∀ k, r.ownBlock = some k → ¬ C k := fun k e hc => by
    rcases h.row.2 with ⟨e0, _⟩ | ⟨g, cap, cur, e0, _⟩
    · rw [e0] at e; cases e
    · subst e0
      obtain rfl : g = k := by simpa [Value.ownBlock] using e
      exact h.rowOut.2.1 hc
  have hk : ∀ x, C x → w2.heap[x]? = w.heap[x]? := fun x hx => hg.block x (hC x hx) (fun e => hrC x e.symm hx)
  have hown : ∀ {e : TypeId} {sz m : Nat} {v : Value} {xs : List Value}, e ≠ 58 → w.ownsRow B e sz v m xs → w2.ownsRow B e sz v m xs := fun {e sz m v xs} h1 hx => hx.kept hg (ownsRow_diff h1 hx h.row)
  have hblk : w2.heap[b]? = some (.cells #[r, .int .i64 n] 47 (0, 0)) := by
    rw [hg.block b (lt_of_block h.blk) (fun e => (ownsRow_other h.row (r := b) (fun cur hb => h.out.2 cur _ (by decide) hb)) e.symm)]
    exact h.blk
  have hgp := grown_put w2 b 0 r'
  have hnb : ∀ (cur : Array Value) (e : TypeId), e ≠ 47 → w2.heap[b]? ≠ some (Obj.cells cur e (0, 0)) := fun cur e he hx => by
    rw [hblk] at hx
    injection hx with hx
    injection hx with _ hx
    exact he hx.symm
  have hown4 : ∀ {e : TypeId} {sz m : Nat} {v : Value} {xs : List Value}, e ≠ 47 → w2.ownsRow B e sz v m xs → (w2.setCell ⟨b, 0, none⟩ r').ownsRow B e sz v m xs := fun {e sz m v xs} h1 hx => own_type hx hgp (fun cur => hnb cur e h1)
  have hk4 := same_put (w := w2) (i := 0) (u := r') h.out.1
  have hk5 : ∀ x, C x → (w2.setCell ⟨b, 0, none⟩ r').heap[x]? = w.heap[x]? := fun x hx => (hk4 x hx).trans (hk x hx)
  refine ⟨by rw [heap_put0 hblk]; rfl, ?_, ?_, ?_, ?_, ?_, fun p hp => hq p hp, fun x hx => ⟨by have := Nat.lt_of_lt_of_le (hC x hx) hg.size; simpa [World.setCell] using this, by rw [hk5 x hx]; exact (h.typ x hx).2⟩, h.base, (h.below.grown hg h.size (fun k e => (h.row.lt k e).1)).setCell (p := ⟨b, 0, none⟩) h.base r', by have := Nat.le_trans h.size hg.size; simpa [World.setCell] using this, (h.since.own h.row hg (.inr (.inl rfl))).put hblk (.inl rfl)⟩
  · refine hown4 (by decide) ?_
    rw [List.length_cons, List.reverse_cons, partVals_append]
    exact ho
  · intro x hx
    rcases List.mem_cons.1 hx with rfl | hx
    · exact ha.mono hk5 (fun _ x => x)
    · exact (h.attrs x hx).mono hk5 (fun _ x => x)
  · intro x hx
    rcases List.mem_cons.1 hx with rfl | hx
    · exact ⟨World.ownsRow_nil _ B _ 4, fun y hy => (by cases hy), fun k e => (by cases e)⟩
    · have := h.kids x hx
      exact ⟨hown4 (by decide) (hown (by decide) this.row), fun y hy => ⟨(this.each y hy).1.mono hk5 (fun _ x => x), (this.each y hy).2.mono hk5 (fun _ x => x)⟩, this.out⟩
  · exact List.pairwise_cons.2 ⟨fun x hx => .inl rfl, h.apart⟩
  · intro x hx
    rcases List.mem_cons.1 hx with rfl | hx
    · exact ⟨World.ownsRow_nil _ B _ 1, fun _ => rfl⟩
    · exact ⟨hown4 (by decide) (hown (by decide) (h.tails x hx).1), (h.tails x hx).2⟩
theorem BS.wider {C C' : Nat → Prop} {B b : Nat} {r : Value} {st : List PartV} {n : Nat} {W0 w : World} (h : BS C B b r st n W0 w) (hs : ∀ x, C x → C' x) (ho : ∀ p ∈ st, ∀ g, p.kv.ownBlock = some g → ¬ C' g)
    (ht : ∀ g, C' g → g < w.heap.size ∧ ∀ cur T fz, w.heap[g]? = some (.cells cur T fz) → T = 33 ∨ T = 43) : BS C' B b r st n W0 w :=
  ⟨h.blk, h.row, fun p hp => (h.attrs p hp).mono (fun _ _ => rfl) hs, fun p hp => ⟨(h.kids p hp).row, fun q hq => ⟨((h.kids p hp).each q hq).1.mono (fun _ _ => rfl) hs, ((h.kids p hp).each q hq).2.mono (fun _ _ => rfl) hs⟩, ho p hp⟩, h.apart, h.tails, h.quiet, ht, h.base, h.below, h.size, h.since⟩
theorem BS.from {C : Nat → Prop} {B b : Nat} {r : Value} {st : List PartV} {n : Nat} {W0 w : World} (h : BS C B b r st n W0 w) : BS C B b r st n w w :=
  ⟨h.blk, h.row, h.attrs, h.kids, h.apart, h.tails, h.quiet, h.typ, h.base, Below.refl _ _, h.size, Since4.refl _⟩
end Go.Proofs.YtiejmkjpgjbodaaGreatDoor

namespace Go.Proofs.YtiejmkjpgjbodaaGreatDoor
open Go.RowKit
set_option linter.unusedVariables false
set_option linter.unusedSimpArgs false
set_option maxRecDepth 100000
set_option maxHeartbeats 2000000 in
theorem inner14_any (C : Nat → Prop) (B b : Nat) (r : Value) (st : List PartV) (n : Nat) (W0 w : World) (h : BS C B b r st n W0 w) (hs : st ≠ []) (hl : st.length ≤ 1048576) :
    Calls Tryz.prog 39 #[.pointer (some ⟨b, 0, none⟩)] w fun e w' => (∃ g cap, r = .slice (some ⟨g, 0, none⟩) st.length cap ∧ e = .returned (.pointer (some ⟨g, (st.length - 1) * 5, none⟩))) ∧ ∃ m, w' = w.drewN m := by
  obtain ⟨g, cap, rfl, h1, h2, h3, h4⟩ := h.form hs
  have c0 := h.c0
  obtain ⟨k, hk⟩ : ∃ k, st.length = k + 1 := ⟨st.length - 1, by have := List.length_pos_iff.2 hs; omega⟩
  rw [hk] at c0 hl ⊢
  have tn1 : wrap64 (((k + 1 : Nat) : Int) - 1) = (k : Int) := by unfold wrap64; omega
  have tn4 : wrap64 ((k : Int) + 1 - 1) = (k : Int) := by unfold wrap64; omega
  have tn2 : ((k + 1 : Nat) : Int) - 1 = (k : Int) := by omega
  have tn5 : (k : Int) < (k : Int) + 1 := by omega
  clear h hs hk h1 h2 h3 h4
  go_enter Tryz.func39, Tryz.ntmps39
  go_wp2_with fail
  go_quiet (fail)
  go_wp2_with fail
  go_ret
  exact ⟨⟨g, cap, rfl, rfl⟩, nq, rfl⟩
set_option maxHeartbeats 2000000 in
theorem take_no (C : Nat → Prop) (B b : Nat) (r : Value) (st : List PartV) (W0 w : World) (h : BS C B b r st 5000 W0 w) :
    Calls Tryz.prog 85 #[.pointer (some ⟨b, 0, none⟩)] w fun e w' => e = .returned (.bool false) ∧ w = w' := by
  have c1 := h.c1
  clear h
  go_enter Tryz.func85, Tryz.ntmps85
  go_wp2_with fail
  go_ret
  exact ⟨rfl, rfl⟩
set_option maxHeartbeats 2000000 in
theorem take_yes (C : Nat → Prop) (B b : Nat) (r : Value) (st : List PartV) (n : Nat) (W0 w : World) (h : BS C B b r st n W0 w) (hn : n < 5000) :
    Calls Tryz.prog 85 #[.pointer (some ⟨b, 0, none⟩)] w fun e w' => e = .returned (.bool true) ∧ BS C B b r st (n + 1) W0 w' := by
  have c1 := h.c1
  have f1 := h.free 1
  have t0 : ((n : Int) == 5000) = false := beq_eq_false_iff_ne.2 (by omega)
  have HB := hide (h.setCount (n + 1))
  clear h
  go_enter Tryz.func85, Tryz.ntmps85
  go_wp2_with fail
  go_ret
  exact ⟨rfl, HB.out⟩
end Go.Proofs.YtiejmkjpgjbodaaGreatDoor

namespace Go.Proofs.YtiejmkjpgjbodaaGreatDoor
open Go.RowKit
set_option linter.unusedVariables false
set_option linter.unusedSimpArgs false
set_option maxRecDepth 100000
def zeroKid : KidV := ((⟨[], [], []⟩, .nil), (.slice none 0 0, .slice none 0 0))
theorem info_nd14 : (Tryz.prog.info? 33).map (fun i => (i.zero, i.size, i.bytes)) = some (some (.agg #[.string ByteArray.empty, .slice none 0 0, .string ByteArray.empty, .slice none 0 0]), 4, 80) := by kernel_rfl
theorem step_node0 {ops : Array Oper} {o : Oper} {a : Act} {w : World} {K : Act → World → Prop} {Q : Exit → Act → World → Prop} {E : Prop} (hgd : o.guard = none) (s x : Operand)
    (ho : o.op = .call { callee := .builtin .append, args := #[s, x], argTypes := #[23, 23] })
    (B : Nat) (v : Value) (ks : List KidV) (hs : a.eval s = v) (hb : w.ownsRow B 33 4 v ks.length (nodeVals ks)) (hB : B ≤ w.heap.size) (ad : Addr)
    (hx : a.eval x = .slice (some ad) 1 1) (h0 : w.cell? (ad.add 0) = some (.string ⟨#[]⟩)) (h1 : w.cell? (ad.add 1) = some (.slice none 0 0)) (h2 : w.cell? (ad.add 2) = some (.string ⟨#[]⟩)) (h3 : w.cell? (ad.add 3) = some (.slice none 0 0))
    (hlen : ks.length + 1 ≤ 1073741824)
    (h : ∀ g' cap' w', w'.ownsRow B 33 4 (.slice (some ⟨g', 0, none⟩) (ks.length + 1) cap') (ks.length + 1) (nodeVals (ks ++ [zeroKid])) → w.grownBy w' v.ownBlock → (some g' = v.ownBlock ∨ g' = w.heap.size) → ks.length + 1 ≤ cap' → cap' ≤ maxLen →
      K (a.put o.dst (.slice (some ⟨g', 0, none⟩) (ks.length + 1) cap')) w') :
    if Region.wanted o (yielded ops a.tmps) = true then Oper.wp Tryz.prog o a w K Q else E := by
  have hw : Region.wanted o (yielded ops a.tmps) = true := by simp [Region.wanted, hgd]
  rw [if_pos hw]
  obtain ⟨i0, hi, hz0, hz1, hz2⟩ := info_parts info_nd14
  refine wp_append_own2 _ s x 23 ho B 33 i0 (.agg #[.string ByteArray.empty, .slice none 0 0, .string ByteArray.empty, .slice none 0 0]) 4 80 Tryz.underlying23 hi hz0 hz1 hz2 rfl (by decide) v ks.length (nodeVals ks) hs hb ad 1 1 (nodeVals [zeroKid]) hx rfl ?_ ?_ (by unfold maxLen; omega) (by omega) hB ?_
  · intro j u hj
    match j, hj with
    | 0, hj => simp [nodeVals, zeroKid] at hj; subst hj; exact h0
    | 1, hj => simp [nodeVals, zeroKid] at hj; subst hj; exact h1
    | 2, hj => simp [nodeVals, zeroKid] at hj; subst hj; exact h2
    | 3, hj => simp [nodeVals, zeroKid] at hj; subst hj; exact h3
    | (j + 4), hj => simp [nodeVals, zeroKid] at hj
  · intro u hu
    simp [nodeVals, zeroKid] at hu
    rcases hu with rfl | rfl | rfl | rfl <;> rfl
  · intro v' w' ho' hg hor
    rcases ho'.2 with ⟨_, h0⟩ | ⟨g', cap', cur, rfl, _, hh, c1, c2, _⟩
    · cases h0
    · refine h g' cap' w' (by rw [nodeVals_append]; exact ho') hg ?_ c1 c2
      rcases hor with e | e
      · exact .inl e
      · exact .inr (by simpa [Value.ownBlock] using e)
theorem node_stored {w : World} {B g cap : Nat} {ks : List KidV} (h : w.ownsRow B 33 4 (.slice (some ⟨g, 0, none⟩) (ks.length + 1) cap) (ks.length + 1) (nodeVals (ks ++ [zeroKid]))) (q : KidV) :
    (((((w.setCell ⟨g, ks.length * 4, none⟩ (.string (str q.1.1.name))).setCell ⟨g, ks.length * 4 + 1, none⟩ q.2.1).setCell ⟨g, ks.length * 4 + 2, none⟩ (.string (str q.1.1.text))).setCell ⟨g, ks.length * 4 + 3, none⟩ q.2.2)).ownsRow B 33 4 (.slice (some ⟨g, 0, none⟩) (ks.length + 1) cap) (ks.length + 1) (nodeVals (ks ++ [q])) ∧
    (∀ k, k ≠ g → ((((w.setCell ⟨g, ks.length * 4, none⟩ (.string (str q.1.1.name))).setCell ⟨g, ks.length * 4 + 1, none⟩ q.2.1).setCell ⟨g, ks.length * 4 + 2, none⟩ (.string (str q.1.1.text))).setCell ⟨g, ks.length * 4 + 3, none⟩ q.2.2).heap[k]? = w.heap[k]?) := by
  obtain ⟨a1, b1⟩ := h.stored (ks.length * 4) (.string (str q.1.1.name))
  obtain ⟨a2, b2⟩ := a1.stored (ks.length * 4 + 1) q.2.1
  obtain ⟨a3, b3⟩ := a2.stored (ks.length * 4 + 2) (.string (str q.1.1.text))
  obtain ⟨a4, b4⟩ := a3.stored (ks.length * 4 + 3) q.2.2
  refine ⟨?_, fun k hk => ?_⟩
  · have e : ((((nodeVals (ks ++ [zeroKid])).set (ks.length * 4) (.string (str q.1.1.name))).set (ks.length * 4 + 1) q.2.1).set (ks.length * 4 + 2) (.string (str q.1.1.text))).set (ks.length * 4 + 3) q.2.2 = nodeVals (ks ++ [q]) := by
      have hs : ∀ (j : Nat) (zs : List Value) (u : Value), (nodeVals ks ++ zs).set (ks.length * 4 + j) u = nodeVals ks ++ zs.set j u := fun j zs u => by
        rw [List.set_append_right _ _ (by rw [nodeVals_length]; omega), nodeVals_length, show ks.length * 4 + j - ks.length * 4 = j by omega]
      have h0 := hs 0
      rw [Nat.add_zero] at h0
      rw [nodeVals_append, nodeVals_append, h0, hs, hs, hs]
      rfl
    rw [e] at a4
    exact a4
  · have hne : ∀ (W : World) (i : Nat) (u : Value), (W.setCell ⟨g, i, none⟩ u).heap[k]? = W.heap[k]? := fun W i u => Below.heap_setCell W ⟨g, i, none⟩ u k hk
    rw [hne, hne, hne, hne]
theorem node_row (W : World) (c0 c1 c2 c3 : Value) : (W.alloc (.cells #[c0, c1, c2, c3] 33)).cell? ((⟨W.heap.size, 0, none⟩ : Addr).add 0) = some c0 ∧ (W.alloc (.cells #[c0, c1, c2, c3] 33)).cell? ((⟨W.heap.size, 0, none⟩ : Addr).add 1) = some c1 ∧ (W.alloc (.cells #[c0, c1, c2, c3] 33)).cell? ((⟨W.heap.size, 0, none⟩ : Addr).add 2) = some c2 ∧ (W.alloc (.cells #[c0, c1, c2, c3] 33)).cell? ((⟨W.heap.size, 0, none⟩ : Addr).add 3) = some c3 := by
  have h : (W.alloc (.cells #[c0, c1, c2, c3] 33)).heap[W.heap.size]? = some (.cells #[c0, c1, c2, c3] 33 (0, 0)) := by
    show (W.heap.push _)[W.heap.size]? = _
    exact Array.getElem?_push_size
  exact ⟨by rw [Addr.add_lit, Lib.cell_of_heap h]; rfl, by rw [Addr.add_lit, Lib.cell_of_heap h]; rfl, by rw [Addr.add_lit, Lib.cell_of_heap h]; rfl, by rw [Addr.add_lit, Lib.cell_of_heap h]; rfl⟩
theorem app_facts {C : Nat → Prop} {B b g cap : Nat} {p : PartV} {rest : List PartV} {n : Nat} {W0 W : World} (h : BS C B b (.slice (some ⟨g, 0, none⟩) (rest.length + 1) cap) (p :: rest) n W0 W) {g' cap' : Nat} {w2 : World}
    (ho : w2.ownsRow B 33 4 (.slice (some ⟨g', 0, none⟩) (p.kids.length + 1) cap') (p.kids.length + 1) (nodeVals (p.kids ++ [zeroKid]))) (hg : W.grownBy w2 p.kv.ownBlock) (hor : some g' = p.kv.ownBlock ∨ g' = W.heap.size) :
    g' ≠ g ∧ (∀ i, w2.frozen? ⟨g', i, none⟩ = false) ∧ (w2.cell? ⟨g', p.kids.length * 4, none⟩ = some (.string ⟨#[]⟩) ∧ w2.cell? ⟨g', p.kids.length * 4 + 1, none⟩ = some (.slice none 0 0) ∧ w2.cell? ⟨g', p.kids.length * 4 + 2, none⟩ = some (.string ⟨#[]⟩) ∧ w2.cell? ⟨g', p.kids.length * 4 + 3, none⟩ = some (.slice none 0 0)) ∧
    (∀ i, w2.frozen? ⟨g, i, none⟩ = false) ∧ (∀ i, w2.cell? ⟨g, i, none⟩ = W.cell? ⟨g, i, none⟩) := by
  have hk := (h.kids p (List.mem_cons_self ..)).row
  obtain ⟨q1, q2, q3, q4⟩ := h.rowOut
  have hlt : g < W.heap.size := by
    obtain ⟨g0, c0, e, _, _, _, hl⟩ := h.form (by simp)
    injection e with e _ _
    injection e with e
    injection e with e
    rw [e]; exact hl
  have hnk : p.kv.ownBlock ≠ some g := ownsRow_other hk (fun cur => q4 cur _ (by decide))
  have hgg : w2.heap[g]? = W.heap[g]? := hg.block g hlt (fun e => hnk e.symm)
  have hc : ∀ j, j < 4 → w2.cell? ⟨g', p.kids.length * 4 + j, none⟩ = [Value.string ⟨#[]⟩, .slice none 0 0, .string ⟨#[]⟩, .slice none 0 0][j]? := fun j hj => by
    rw [ho.cellAt _ (by omega), nodeVals_append, List.getElem?_append_right (by rw [nodeVals_length]; omega), nodeVals_length, show p.kids.length * 4 + j - p.kids.length * 4 = j by omega]
    rfl
  refine ⟨fun e => ?_, fun i => ho.frozenAt i, ⟨hc 0 (by decide), hc 1 (by decide), hc 2 (by decide), hc 3 (by decide)⟩, fun i => ?_, fun i => World.cell?_of_block hgg⟩
  · rcases hor with e1 | e1
    · exact hnk (by rw [← e1, e])
    · omega
  · rw [World.frozen?_of_block (a := ⟨g, i, none⟩) hgg]
    exact h.cells.2.2.2.2.2 i
theorem BS.kidWritten {C : Nat → Prop} {B b g cap : Nat} {p : PartV} {rest : List PartV} {n : Nat} {W0 W : World} (h : BS C B b (.slice (some ⟨g, 0, none⟩) (rest.length + 1) cap) (p :: rest) n W0 W) {g' cap' : Nat} {w2 : World} {q : KidV}
    (ho : w2.ownsRow B 33 4 (.slice (some ⟨g', 0, none⟩) (p.kids.length + 1) cap') (p.kids.length + 1) (nodeVals (p.kids ++ [zeroKid]))) (hg : W.grownBy w2 p.kv.ownBlock) (hor : some g' = p.kv.ownBlock ∨ g' = W.heap.size)
    (hq : AttrsC C W q.2.1 q.1.1.attrs ∧ NodesC C W q.2.2 q.1.2) :
    BS C B b (.slice (some ⟨g, 0, none⟩) (rest.length + 1) cap) ({ p with kids := p.kids ++ [q], kv := .slice (some ⟨g', 0, none⟩) (p.kids.length + 1) cap' } :: rest) n W0
      (((((w2.setCell ⟨g', p.kids.length * 4, none⟩ (.string (str q.1.1.name))).setCell ⟨g', p.kids.length * 4 + 1, none⟩ q.2.1).setCell ⟨g', p.kids.length * 4 + 2, none⟩ (.string (str q.1.1.text))).setCell ⟨g', p.kids.length * 4 + 3, none⟩ q.2.2).setCell ⟨g, rest.length * 5 + 3, none⟩ (.slice (some ⟨g', 0, none⟩) (p.kids.length + 1) cap')) := by
  obtain ⟨s1, s2⟩ := node_stored ho q
  refine h.pushKid s1 ⟨hg.os, hg.tape, hg.output, by have := hg.size; simpa [World.setCell] using this, fun k hk hne => ?_⟩ (by
    rcases hor with e | e
    · exact .inl e
    · exact .inr (by rw [← e]; rfl)) hq
  rw [s2 k ?_]
  · exact hg.block k hk hne
  · rintro rfl
    rcases hor with e | e
    · exact hne e
    · omega
theorem setCell_comm (w : World) (a b : Addr) (u v : Value) (h : a.block ≠ b.block) : (w.setCell a u).setCell b v = (w.setCell b v).setCell a u := by
  unfold World.setCell
  congr 1
  apply Array.ext_getElem?
  intro i
  simp only [Array.getElem?_modify]
  by_cases h1 : b.block = i
  · have h2 : ¬ a.block = i := fun e => h (e.trans h1.symm)
    simp [h1, h2]
  · simp [h1]
theorem kid_comm (w : World) {g g' : Nat} (h : g ≠ g') (i j0 j1 j2 j3 : Nat) (r v0 v1 v2 v3 : Value) :
    (((((w.setCell ⟨g, i, none⟩ r).setCell ⟨g', j0, none⟩ v0).setCell ⟨g', j1, none⟩ v1).setCell ⟨g', j2, none⟩ v2).setCell ⟨g', j3, none⟩ v3) = (((((w.setCell ⟨g', j0, none⟩ v0).setCell ⟨g', j1, none⟩ v1).setCell ⟨g', j2, none⟩ v2).setCell ⟨g', j3, none⟩ v3).setCell ⟨g, i, none⟩ r) := by
  rw [setCell_comm w ⟨g, i, none⟩ ⟨g', j0, none⟩ r v0 h, setCell_comm _ ⟨g, i, none⟩ ⟨g', j1, none⟩ r v1 h, setCell_comm _ ⟨g, i, none⟩ ⟨g', j2, none⟩ r v2 h, setCell_comm _ ⟨g, i, none⟩ ⟨g', j3, none⟩ r v3 h]
theorem BS.noTail {C : Nat → Prop} {B b g cap : Nat} {p : PartV} {rest : List PartV} {n : Nat} {W0 w : World} (h : BS C B b (.slice (some ⟨g, 0, none⟩) (rest.length + 1) cap) (p :: rest) n W0 w) :
    BS C B b (.slice (some ⟨g, 0, none⟩) (rest.length + 1) cap) ({ p with tail := [], tv := .slice none 0 0 } :: rest) n W0 (w.setCell ⟨g, rest.length * 5 + 4, none⟩ (.slice none 0 0)) := by
  have hk := h.kids _ (List.mem_cons_self ..)
  exact h.putP { p with tail := [], tv := .slice none 0 0 } 4 (.slice none 0 0) (by decide) rfl rfl rfl hk ((List.pairwise_cons.1 h.apart).1) ⟨World.ownsRow_nil _ B _ 1, fun _ => rfl⟩
theorem BS.moreTail {C : Nat → Prop} {B b g cap : Nat} {p : PartV} {rest : List PartV} {n : Nat} {W0 w w2 : World} {tv' : Value} {tl' : List UInt8} (h : BS C B b (.slice (some ⟨g, 0, none⟩) (rest.length + 1) cap) (p :: rest) n W0 w)
    (ho : w2.ownsRow B 5 1 tv' tl'.length (cellsOf tl')) (hg : w.grownBy w2 p.tv.ownBlock) (hn : tl' = [] → tv' = .slice none 0 0) :
    BS C B b (.slice (some ⟨g, 0, none⟩) (rest.length + 1) cap) ({ p with tail := tl', tv := tv' } :: rest) n W0 (w2.setCell ⟨g, rest.length * 5 + 4, none⟩ tv') := by
  have ht := h.tails p (List.mem_cons_self ..)
  have hrest : ∀ q ∈ rest, q.tv = .slice none 0 0 := fun q hq => (h.tails q (List.mem_cons_of_mem _ hq)).2 (h.quiet q hq)
  have hC : ∀ k, C k → k < w.heap.size := fun k hk => (h.typ k hk).1
  have htC : ∀ k, p.tv.ownBlock = some k → ¬ C k := fun k e hc => by
    rcases ht.1.2 with ⟨e0, _⟩ | ⟨g0, c0, cur, e0, _, hh, _⟩
    · rw [e0] at e; cases e
    · rw [e0] at e
      obtain rfl : g0 = k := by simpa [Value.ownBlock] using e
      rcases (h.typ g0 hc).2 _ _ _ hh with e | e
      · exact absurd e (by decide)
      · exact absurd e (by decide)
  have hk : ∀ x, C x → w2.heap[x]? = w.heap[x]? := fun x hx => hg.block x (hC x hx) (fun e => htC x e.symm hx)
  have hown : ∀ {e : TypeId} {sz m : Nat} {v : Value} {xs : List Value}, e ≠ 5 → w.ownsRow B e sz v m xs → w2.ownsRow B e sz v m xs := fun {e sz m v xs} h1 hx => hx.kept hg (ownsRow_diff h1 hx ht.1)
  have hblk : w2.heap[b]? = some (.cells #[.slice (some ⟨g, 0, none⟩) (rest.length + 1) cap, .int .i64 n] 47 (0, 0)) := by
    rw [hg.block b (lt_of_block h.blk) (fun e => (ownsRow_other ht.1 (r := b) (fun cur hb => h.out.2 cur _ (by decide) hb)) e.symm)]
    exact h.blk
  have hrow := hown (by decide) h.row
  have hK : ∀ x ∈ p :: rest, KRow C B x.kv x.kids w2 := fun x hx => ⟨hown (by decide) (h.kids x hx).row, fun y hy => ⟨((h.kids x hx).each y hy).1.mono hk (fun _ x => x), ((h.kids x hx).each y hy).2.mono hk (fun _ x => x)⟩, (h.kids x hx).out⟩
  obtain ⟨r1, hgp⟩ := (show w2.ownsRow B 58 5 (.slice (some ⟨g, 0, none⟩) (rest.length + 1) cap) (rest.length + 1) (partVals (p :: rest).reverse) from hrow).stored (rest.length * 5 + 4) tv'
  have q4 : ∀ (cur : Array Value) (e : TypeId), e ≠ 58 → w2.heap[g]? ≠ some (Obj.cells cur e (0, 0)) := fun cur e h1 hx => by
    rcases hrow.2 with ⟨h0, _⟩ | ⟨g', cap', cur', h0, _, hh, _⟩
    · cases h0
    · injection h0 with h0 _ _
      injection h0 with h0
      injection h0 with h0
      subst h0
      rw [hh] at hx
      injection hx with hx
      injection hx with _ hx
      exact h1 hx.symm
  obtain ⟨q1, q2, q3, _⟩ := h.rowOut
  have hown4 : ∀ {e : TypeId} {sz m : Nat} {v : Value} {xs : List Value}, e ≠ 58 → w2.ownsRow B e sz v m xs → (w2.setCell ⟨g, rest.length * 5 + 4, none⟩ tv').ownsRow B e sz v m xs := fun {e sz m v xs} h1 hx => own_type hx hgp (fun cur => q4 cur e h1)
  have hk4 := same_put (w := w2) (i := rest.length * 5 + 4) (u := tv') q2
  have hk5 : ∀ x, C x → (w2.setCell ⟨g, rest.length * 5 + 4, none⟩ tv').heap[x]? = w.heap[x]? := fun x hx => (hk4 x hx).trans (hk x hx)
  have hrm : ∀ x ∈ rest, x ∈ p :: rest := fun x hx => List.mem_cons_of_mem _ hx
  refine ⟨?_, ?_, ?_, ?_, ?_, ?_, h.quiet, fun x hx => ⟨by have := Nat.lt_of_lt_of_le (hC x hx) hg.size; simpa [World.setCell] using this, by rw [hk5 x hx]; exact (h.typ x hx).2⟩, h.base, (h.below.grown hg h.size (fun k e => (ht.1.lt k e).1)).setCell (p := ⟨g, rest.length * 5 + 4, none⟩) q3 tv', by have := Nat.le_trans h.size hg.size; simpa [World.setCell] using this, (h.since.own ht.1 hg (.inr (.inr (.inr rfl)))).own hrow hgp (.inr (.inl rfl))⟩
  · rw [hgp.block b (lt_of_block hblk) (fun e => q1 (Option.some.inj e).symm)]
    exact hblk
  · rw [List.reverse_cons] at r1 ⊢
    have e1 := partVals_set rest.reverse p 4 (by decide) tv'
    rw [List.length_reverse] at e1
    rw [e1] at r1
    rw [partVals_append]
    exact r1
  · intro x hx
    rcases List.mem_cons.1 hx with rfl | hx
    · exact (h.attrs p (List.mem_cons_self ..)).mono hk5 (fun _ x => x)
    · exact (h.attrs x (hrm x hx)).mono hk5 (fun _ x => x)
  · intro x hx
    have hx2 : ∀ y : PartV, KRow C B y.kv y.kids w2 → KRow C B y.kv y.kids (w2.setCell ⟨g, rest.length * 5 + 4, none⟩ tv') := fun y hy => ⟨hown4 (by decide) hy.row, fun z hz => ⟨(hy.each z hz).1.mono hk4 (fun _ x => x), (hy.each z hz).2.mono hk4 (fun _ x => x)⟩, hy.out⟩
    rcases List.mem_cons.1 hx with rfl | hx
    · exact hx2 p (hK p (List.mem_cons_self ..))
    · exact hx2 x (hK x (hrm x hx))
  · exact List.pairwise_cons.2 ⟨(List.pairwise_cons.1 h.apart).1, (List.pairwise_cons.1 h.apart).2⟩
  · intro x hx
    rcases List.mem_cons.1 hx with rfl | hx
    · exact ⟨hown4 (by decide) ho, hn⟩
    · rw [hrest x hx, h.quiet x hx]
      exact ⟨World.ownsRow_nil _ B _ 1, fun _ => rfl⟩
end Go.Proofs.YtiejmkjpgjbodaaGreatDoor

namespace Go.Proofs.YtiejmkjpgjbodaaGreatDoor
open Go.RowKit
set_option linter.unusedVariables false
set_option linter.unusedSimpArgs false
set_option maxRecDepth 100000
set_option maxHeartbeats 8000000 in
theorem endTextT_any (C : Nat → Prop) (B b g cap : Nat) (p : PartV) (rest : List PartV) (n : Nat) (W0 w : World) (h : BS C B b (.slice (some ⟨g, 0, none⟩) (rest.length + 1) cap) (p :: rest) n W0 w) (hl : rest.length ≤ 1048576) (hk : p.kids.length ≤ 1048576) (ht : p.tail.length ≤ 70368744177664) :
    Calls Tryz.prog 40 #[.pointer (some ⟨g, rest.length * 5, none⟩)] w fun e w' => e = .returned (.tuple #[]) ∧
      ∃ p', BS C B b (.slice (some ⟨g, 0, none⟩) (rest.length + 1) cap) (p' :: rest) n W0 w' ∧ p'.toL = endTextL p.toL := by
  obtain ⟨e0, e1, e2, e3, e4, ef⟩ := h.cells
  obtain ⟨tl1, tl2⟩ := h.tails p (List.mem_cons_self ..)
  by_cases hx : p.tail = []
  · have ht2 := tl2 hx
    rw [ht2] at e4
    have HR : Hid (BS C B b (.slice (some ⟨g, 0, none⟩) (rest.length + 1) cap) (p :: rest) n W0 w ∧ p.toL = endTextL p.toL) := hide ⟨h, by unfold endTextL; rw [if_pos (show p.toL.tail = [] from hx)]⟩
    clear h e0 e1 e2 e3 ef tl1 tl2 hx ht2 hk ht
    go_enter Tryz.func40, Tryz.ntmps40
    go_wp2_with fail
    go_end0
    exact ⟨rfl, p, HR.out⟩
  · obtain ⟨gt, ct, htv⟩ : ∃ gt ct, p.tv = .slice (some ⟨gt, 0, none⟩) p.tail.length ct := by
      rcases tl1.2 with ⟨_, h0⟩ | ⟨g', cap', cur, hv, _⟩
      · exact absurd (List.eq_nil_of_length_eq_zero h0) hx
      · exact ⟨g', cap', hv⟩
    rw [htv] at e4
    obtain ⟨N, hN⟩ : ∃ N, p.tail.length = N := ⟨_, rfl⟩
    have hN0 : 0 < N := by rw [← hN]; exact List.length_pos_iff.2 hx
    have g1 : decide ((0 : Int) < (N : Int)) = true := decide_eq_true (by omega)
    rw [hN] at e4
    obtain ⟨KA, KC, hkv⟩ : ∃ A c, p.kv = .slice A p.kids.length c := by
      rcases (h.kids p (List.mem_cons_self ..)).row.2 with ⟨hv, h0⟩ | ⟨g', cap', cur, hv, _⟩
      · exact ⟨none, 0, by rw [hv, h0]⟩
      · exact ⟨_, _, hv⟩
    rw [hkv] at e3
    obtain ⟨X, hX⟩ : ∃ X, str p.tail = X := ⟨_, rfl⟩
    have HX := hide hX
    have HXN := hide hx
    have HH := hide h
    have HK := hide hk
    have HTV := hide htv
    have HKV := hide hkv
    have HNN := hide hN
    have hcv : ∀ w', w'.ownsRow B 5 1 p.tv p.tail.length (cellsOf p.tail) → (convert 56 9 (.slice (some ⟨gt, 0, none⟩) N ct)).run Tryz.prog w' = .ok (.string X) w' := fun w' hw' => by
      have := Buf.convert (B := 0) (W0 := w') (w := w') (v := p.tv) (l := p.tail) ⟨ownsRow_down hw' (Nat.zero_le _), Below.refl _ _, Nat.zero_le _⟩
      rw [htv, hN, hX] at this
      exact this
    have HCV := hide hcv
    have cv0 := hcv w tl1
    clear h hx hk htv hkv hX tl1 tl2 ht hN hcv
    have HOWN : Hid (∀ W, Below w.heap.size w W → W.ownsRow B 33 4 (.slice KA p.kids.length KC) p.kids.length (nodeVals p.kids)) := hide fun W hW => by
      have := ((HH.out.kept hW).kids p (List.mem_cons_self ..)).row
      rw [HKV.out] at this; exact this
    have e3a : ∀ ob, (w.alloc ob).cell? ⟨g, rest.length * 5 + 3, none⟩ = some (.slice KA p.kids.length KC) := fun ob => ((below_one w ob).cell (World.block_lt_of_cell? _ _ e3)).trans e3
    have e4a : ∀ ob, (w.alloc ob).cell? ⟨g, rest.length * 5 + 4, none⟩ = some (.slice (some ⟨gt, 0, none⟩) N ct) := fun ob => ((below_one w ob).cell (World.block_lt_of_cell? _ _ e4)).trans e4
    have cv0d := HCV.out w.drew (((HH.out.kept (Below.refl _ _).drew).tails p (List.mem_cons_self ..)).1)
    have cv1 : ∀ ob, (convert 56 9 (.slice (some ⟨gt, 0, none⟩) N ct)).run Tryz.prog (w.alloc ob) = .ok (.string X) (w.alloc ob) := fun ob => HCV.out _ (((HH.out.kept (below_one w ob)).tails p (List.mem_cons_self ..)).1)
    have cv1d : ∀ ob, (convert 56 9 (.slice (some ⟨gt, 0, none⟩) N ct)).run Tryz.prog (w.alloc ob).drew = .ok (.string X) (w.alloc ob).drew := fun ob => HCV.out _ (((HH.out.kept ((below_one w ob).drew)).tails p (List.mem_cons_self ..)).1)
    have tn5 : ((p.kids.length : Nat) : Int) < (p.kids.length : Int) + 1 := by omega
    go_enter Tryz.func40, Tryz.ntmps40
    go_wp2_with fail
    all_goals first | exact absurd hN0 ‹_› | skip
    go_region_law (first
      | (refine step_node0 rfl _ _ rfl B (.slice KA p.kids.length KC) p.kids rfl (HOWN.out _ ?_) ?_ ⟨w.heap.size, 0, none⟩ rfl (node_row _ _ _ _ _).1 (node_row _ _ _ _ _).2.1 (node_row _ _ _ _ _).2.2.1 (node_row _ _ _ _ _).2.2.2 (by have := HK.out; omega) ?_
         · exact ((Below.refl _ _).alloc (Nat.le_refl _) _).drew
         · exact Nat.le_trans HH.out.size (((Below.refl w.heap.size w).alloc (Nat.le_refl _) _).drew).size
         intro g' cap' w2 ho2 hg2 hor2 hc2 hm2
         have HB1 := hide (HH.out.kept (((Below.refl w.heap.size w).alloc (Nat.le_refl _) (.cells #[.string ⟨#[]⟩, .slice none 0 0, .string ⟨#[]⟩, .slice none 0 0] 33)).drew))
         have hg3 := hg2
         rw [← HKV.out] at hg3 hor2
         obtain ⟨n1, n2, ⟨n3, n4, n5, n6⟩, n7, n8⟩ := app_facts HB1.out ho2 hg3 hor2
         have n9 : w2.cell? ⟨g, rest.length * 5 + 3, none⟩ = some (.slice KA p.kids.length KC) := (n8 _).trans (e3a _)
         have n10 : w2.cell? ⟨g, rest.length * 5 + 4, none⟩ = some (.slice (some ⟨gt, 0, none⟩) N ct) := (n8 _).trans (e4a _)
         have n11 : ¬ (g = g') := fun e => n1 e.symm
         have HO2 := hide ho2
         have HG2 := hide hg3
         have HOR := hide hor2
         clear ho2 hg2 hg3 hor2 hc2 hm2 n8))
    all_goals
      first | rw [kid_comm w2 n11] | skip
      have hb2 := HB1.out.kidWritten (q := (textNd p.tail, (.slice none 0 0, .slice none 0 0))) HO2.out HG2.out HOR.out ⟨⟨.inl ⟨rfl, rfl⟩, fun a n c e => (by cases e)⟩, .inl ⟨rfl, rfl⟩⟩
      rw [show (textNd p.tail).1.text = p.tail from rfl, HX.out] at hb2
      have hb3 := hb2.noTail
      have HB3 := hide hb3
      clear hb2 hb3
      go_wp2_with fail
      go_end0
      refine ⟨rfl, _, HB3.out, ?_⟩
      unfold endTextL
      rw [if_neg (show ¬ p.toL.tail = [] from HXN.out)]
      unfold PartV.toL
      simp
end Go.Proofs.YtiejmkjpgjbodaaGreatDoor

namespace Go.Proofs.YtiejmkjpgjbodaaGreatDoor
open Go.RowKit
set_option linter.unusedVariables false
set_option linter.unusedSimpArgs false
set_option maxRecDepth 100000
theorem inner_at (C : Nat → Prop) (B b g cap : Nat) (p : PartV) (rest : List PartV) (n : Nat) (W0 w : World) (h : BS C B b (.slice (some ⟨g, 0, none⟩) (rest.length + 1) cap) (p :: rest) n W0 w) (hl : rest.length ≤ 1000000) :
    Calls Tryz.prog 39 #[.pointer (some ⟨b, 0, none⟩)] w fun e w' => e = .returned (.pointer (some ⟨g, rest.length * 5, none⟩)) ∧ BS C B b (.slice (some ⟨g, 0, none⟩) (rest.length + 1) cap) (p :: rest) n W0 w' := by
  refine (inner14_any C B b _ (p :: rest) n W0 w h (by simp) (by simp only [List.length_cons]; omega)).mono ?_
  rintro e w' ⟨⟨g2, c2, he, rfl⟩, m, rfl⟩
  injection he with he _ _
  injection he with he
  injection he with he
  subst he
  exact ⟨rfl, h.kept ⟨rfl, rfl, rfl, Nat.le_refl _, fun _ _ => rfl⟩⟩
theorem inner_at2 (C : Nat → Prop) (B b g cap : Nat) (p : PartV) (rest : List PartV) (n : Nat) (W0 w : World) (h : BS C B b (.slice (some ⟨g, 0, none⟩) (rest.length + 1) cap) (p :: rest) n W0 w) (hl : rest.length ≤ 1000000) :
    Calls Tryz.prog 39 #[.pointer (some ⟨b, 0, none⟩)] w fun e w' => e = .returned (.pointer (some ⟨g, rest.length * 5, none⟩)) ∧ BS C B b (.slice (some ⟨g, 0, none⟩) (rest.length + 1) cap) (p :: rest) n W0 w' ∧ ∃ m, w' = w.drewN m := by
  refine (inner14_any C B b _ (p :: rest) n W0 w h (by simp) (by simp only [List.length_cons]; omega)).mono ?_
  rintro e w' ⟨⟨g2, c2, he, rfl⟩, m, rfl⟩
  injection he with he _ _
  injection he with he
  injection he with he
  subst he
  exact ⟨rfl, h.kept ⟨rfl, rfl, rfl, Nat.le_refl _, fun _ _ => rfl⟩, m, rfl⟩
def toLs (st : List PartV) : List PartL := st.map PartV.toL
def Left (B b : Nat) (s : BsL) (W0 w : World) : Prop := ∃ C r st, BS C B b r st s.2 W0 w ∧ toLs st = s.1
set_option maxHeartbeats 4000000 in
theorem charsTail_any (C : Nat → Prop) (B b g cap : Nat) (p : PartV) (rest : List PartV) (n : Nat) (W0 w : World) (h : BS C B b (.slice (some ⟨g, 0, none⟩) (rest.length + 1) cap) (p :: rest) n W0 w) (hl : rest.length ≤ 1000000) (x : ByteArray) (hx : x.data.toList ≠ []) (hz : p.tail.length + x.size ≤ 140737488355328) (ht : p.tail ≠ []) :
    Calls Tryz.prog 34 #[.pointer (some ⟨b, 0, none⟩), .string x] w fun e w' => e = .returned (.tuple #[]) ∧ ∃ p', BS C B b (.slice (some ⟨g, 0, none⟩) (rest.length + 1) cap) (p' :: rest) n W0 w' ∧ p'.toL = { p.toL with tail := p.tail ++ x.data.toList } := by
  obtain ⟨i0, hi, hz0, hz1, hz2⟩ := info_parts info_u8
  obtain ⟨gt, ct, htv⟩ : ∃ gt ct, p.tv = .slice (some ⟨gt, 0, none⟩) p.tail.length ct := by
    rcases (h.tails p (List.mem_cons_self ..)).1.2 with ⟨_, h0⟩ | ⟨g', cap', cur, hv, _⟩
    · exact absurd (List.eq_nil_of_length_eq_zero h0) ht
    · exact ⟨g', cap', hv⟩
  have hlt : 0 < p.tail.length := List.length_pos_iff.2 ht
  have t0 : ((p.tail.length : Int) == 0) = false := beq_eq_false_iff_ne.2 (by omega)
  have HH := hide h
  have HI := hide (inner_at C B b g cap p rest n W0 w h hl)
  have HTV := hide htv
  have HX := hide hx
  have HI1 := hide hi
  have HZ0 := hide hz0
  have HZ1 := hide hz1
  have HZ2 := hide hz2
  clear h htv hx hi hz0 hz1 hz2 ht
  go_enter Tryz.func34, Tryz.ntmps34
  go_wp2_with fail
  refine HI.out.mono ?_
  rintro e w1 ⟨rfl, hb⟩
  obtain ⟨e0, e1, e2, e3, e4, ef⟩ := hb.cells
  rw [HTV.out] at e4
  have HB := hide hb
  clear hb e0 e1 e2 e3
  go_wp2_with (refine Lib.wpList_append_own_string _ rfl _ _ 56 9 rfl B 5 i0 Tryz.underlying56 Tryz.underlying9 HI1.out HZ0.out HZ1.out HZ2.out (.slice (some ⟨gt, 0, none⟩) p.tail.length ct) p.tail.length (cellsOf p.tail) rfl (by have := (HB.out.tails p (List.mem_cons_self ..)).1; rw [HTV.out] at this; exact this) x rfl (by unfold maxLen; omega) (by omega) HB.out.size ?_
               intro v' w2 hown' hgrow _
               obtain ⟨ao, n', c', rfl⟩ : ∃ ao n' c', v' = .slice ao n' c' := by
                 rcases hown'.2 with ⟨hv, _⟩ | ⟨g0, c0, cur, hv, _⟩
                 · exact ⟨_, _, _, hv⟩
                 · exact ⟨_, _, _, hv⟩
               have hgt := hgrow
               rw [← HTV.out] at hgt
               have hlg : g < w1.heap.size := World.block_lt_of_cell? _ _ e4
               have hne : (Value.slice (some ⟨gt, 0, none⟩) p.tail.length ct).ownBlock ≠ some g := by
                 have := ownsRow_other (HB.out.tails p (List.mem_cons_self ..)).1 (r := g) (fun cur => HB.out.rowOut.2.2.2 cur _ (by decide))
                 rw [HTV.out] at this; exact this
               have hgg : w2.heap[g]? = w1.heap[g]? := hgrow.block g hlg (fun e => hne e.symm)
               have d4 : w2.cell? ⟨g, rest.length * 5 + 4, none⟩ = some (.slice (some ⟨gt, 0, none⟩) p.tail.length ct) := (World.cell?_of_block hgg).trans e4
               have f4 : w2.frozen? ⟨g, rest.length * 5 + 4, none⟩ = false := (World.frozen?_of_block hgg).trans (ef _)
               have HO2 : Hid (w2.ownsRow B 5 1 (.slice ao n' c') (p.tail ++ x.data.toList).length (cellsOf (p.tail ++ x.data.toList))) := hide (by
                 rw [List.length_append, toList_length, cellsOf, List.map_append]
                 exact hown')
               have HG2 := hide hgt
               clear hown' hgrow hgt hlg hne hgg)
  go_end0
  have := HB.out.moreTail HO2.out HG2.out (fun e => absurd (List.append_eq_nil_iff.1 e).2 HX.out)
  exact ⟨rfl, _, this, rfl⟩
set_option maxHeartbeats 4000000 in
theorem charsNew_any (C : Nat → Prop) (B b g cap : Nat) (p : PartV) (rest : List PartV) (n : Nat) (W0 w : World) (h : BS C B b (.slice (some ⟨g, 0, none⟩) (rest.length + 1) cap) (p :: rest) n W0 w) (hl : rest.length ≤ 1000000) (x : ByteArray) (hx : x.data.toList ≠ []) (hz : x.size ≤ 140737488355328) (ht : p.tail = []) (hn : n < 5000) :
    Calls Tryz.prog 34 #[.pointer (some ⟨b, 0, none⟩), .string x] w fun e w' => e = .returned (.tuple #[]) ∧ ∃ p', BS C B b (.slice (some ⟨g, 0, none⟩) (rest.length + 1) cap) (p' :: rest) (n + 1) W0 w' ∧ p'.toL = { p.toL with tail := x.data.toList } := by
  obtain ⟨i0, hi, hz0, hz1, hz2⟩ := info_parts info_u8
  obtain ⟨A, N, ct, htv, hN⟩ : ∃ A N ct, p.tv = .slice A N ct ∧ N = 0 := ⟨_, _, _, (h.tails p (List.mem_cons_self ..)).2 ht, rfl⟩
  have t0 : ((N : Int) == 0) = true := by rw [beq_iff_eq]; omega
  have HT0 : Hid (∀ W, Below w.heap.size w W → True) := hide fun _ _ => trivial
  have HTL := hide ht
  have HN0 := hide hN
  have HH := hide h
  have HI := hide (inner_at C B b g cap p rest n W0 w h hl)
  have HTV := hide htv
  have HX := hide hx
  have HN := hide hn
  have HI1 := hide hi
  have HZ0 := hide hz0
  have HZ1 := hide hz1
  have HZ2 := hide hz2
  clear h htv hx hi hz0 hz1 hz2 ht hn hN HT0
  go_enter Tryz.func34, Tryz.ntmps34
  go_wp2_with fail
  refine HI.out.mono ?_
  rintro e w0 ⟨rfl, hb0⟩
  obtain ⟨e0, e1, e2, e3, e4, ef⟩ := hb0.cells
  rw [HTV.out] at e4
  have HT := hide (take_yes C B b _ (p :: rest) n W0 w0 hb0 HN.out)
  clear hb0 e0 e1 e2 e3 ef
  go_wp2_with fail
  refine HT.out.mono ?_
  rintro e w1 ⟨rfl, hb⟩
  clear e4
  obtain ⟨e0, e1, e2, e3, e4, ef⟩ := hb.cells
  rw [HTV.out] at e4
  have HB := hide hb
  clear hb e0 e1 e2 e3
  go_wp2_with (refine Lib.wpList_append_own_string _ rfl _ _ 56 9 rfl B 5 i0 Tryz.underlying56 Tryz.underlying9 HI1.out HZ0.out HZ1.out HZ2.out (.slice A N ct) 0 [] rfl (by have := (HB.out.tails p (List.mem_cons_self ..)).1; rw [HTV.out, HTL.out] at this; exact this) x rfl (by unfold maxLen; omega) (by omega) HB.out.size ?_
               intro v' w2 hown' hgrow _
               obtain ⟨ao, n', c', rfl⟩ : ∃ ao n' c', v' = .slice ao n' c' := by
                 rcases hown'.2 with ⟨hv, _⟩ | ⟨g0, c0, cur, hv, _⟩
                 · exact ⟨_, _, _, hv⟩
                 · exact ⟨_, _, _, hv⟩
               have hgt := hgrow
               rw [← HTV.out] at hgt
               have hlg : g < w1.heap.size := World.block_lt_of_cell? _ _ e4
               have hne : (Value.slice A N ct).ownBlock ≠ some g := by
                 have := ownsRow_other (HB.out.tails p (List.mem_cons_self ..)).1 (r := g) (fun cur => HB.out.rowOut.2.2.2 cur _ (by decide))
                 rw [HTV.out] at this; exact this
               have hgg : w2.heap[g]? = w1.heap[g]? := hgrow.block g hlg (fun e => hne e.symm)
               have d4 : w2.cell? ⟨g, rest.length * 5 + 4, none⟩ = some (.slice A N ct) := (World.cell?_of_block hgg).trans e4
               have f4 : w2.frozen? ⟨g, rest.length * 5 + 4, none⟩ = false := (World.frozen?_of_block hgg).trans (ef _)
               have HO2 : Hid (w2.ownsRow B 5 1 (.slice ao n' c') x.data.toList.length (cellsOf x.data.toList)) := hide (by
                 have h9 := hown'
                 rw [Nat.zero_add, List.nil_append] at h9
                 rw [toList_length]
                 exact h9)
               have HG2 := hide hgt
               clear hown' hgrow hgt hlg hgg hne)
  go_end0
  have := HB.out.moreTail HO2.out HG2.out (fun e => absurd e HX.out)
  exact ⟨rfl, _, this, rfl⟩
set_option maxHeartbeats 4000000 in
theorem charsFull_any (C : Nat → Prop) (B b g cap : Nat) (p : PartV) (rest : List PartV) (W0 w : World) (h : BS C B b (.slice (some ⟨g, 0, none⟩) (rest.length + 1) cap) (p :: rest) 5000 W0 w) (hl : rest.length ≤ 1000000) (x : ByteArray) (ht : p.tail = []) :
    Calls Tryz.prog 34 #[.pointer (some ⟨b, 0, none⟩), .string x] w fun e w' => e = .returned (.tuple #[]) ∧ BS C B b (.slice (some ⟨g, 0, none⟩) (rest.length + 1) cap) (p :: rest) 5000 W0 w' := by
  have htv := (h.tails p (List.mem_cons_self ..)).2 ht
  have HI := hide (inner_at C B b g cap p rest 5000 W0 w h hl)
  have HTV := hide htv
  clear h htv ht
  go_enter Tryz.func34, Tryz.ntmps34
  go_wp2_with fail
  refine HI.out.mono ?_
  rintro e w0 ⟨rfl, hb0⟩
  obtain ⟨e0, e1, e2, e3, e4, ef⟩ := hb0.cells
  rw [HTV.out] at e4
  have HT := hide (take_no C B b _ (p :: rest) W0 w0 hb0)
  have HB := hide hb0
  clear hb0 e0 e1 e2 e3 ef
  go_wp2_with fail
  refine HT.out.mono ?_
  rintro e w1 ⟨rfl, rfl⟩
  go_wp2_with fail
  try simp only [Exit.inBlock, Exit.then]
  refine bodyPost_ret (results_none rfl _ _ _) rfl ?_
  exact ⟨rfl, HB.out⟩
theorem chars_any (C : Nat → Prop) (B b g cap : Nat) (p : PartV) (rest : List PartV) (n : Nat) (W0 w : World) (h : BS C B b (.slice (some ⟨g, 0, none⟩) (rest.length + 1) cap) (p :: rest) n W0 w) (hl : rest.length ≤ 1000000) (hn : n ≤ 5000) (x : ByteArray) (hx : x.data.toList ≠ []) (hz : p.tail.length + x.size ≤ 140737488355328) :
    Calls Tryz.prog 34 #[.pointer (some ⟨b, 0, none⟩), .string x] w fun e w' => e = .returned (.tuple #[]) ∧ Left B b (charsP x.data.toList (toLs (p :: rest), n)) W0 w' := by
  have hc : charsP x.data.toList (toLs (p :: rest), n) = if p.tail = [] then (if n = 5000 then (toLs (p :: rest), n) else ({ p.toL with tail := x.data.toList } :: toLs rest, n + 1)) else ({ p.toL with tail := p.tail ++ x.data.toList } :: toLs rest, n) := rfl
  rw [hc]
  by_cases ht : p.tail = []
  · rw [if_pos ht]
    by_cases h5 : n = 5000
    · subst h5
      rw [if_pos rfl]
      refine (charsFull_any C B b g cap p rest W0 w h hl x ht).mono ?_
      rintro e w' ⟨rfl, hb⟩
      exact ⟨rfl, C, _, _, hb, rfl⟩
    · rw [if_neg h5]
      refine (charsNew_any C B b g cap p rest n W0 w h hl x hx (by omega) ht (by omega)).mono ?_
      rintro e w' ⟨rfl, p', hb, he⟩
      exact ⟨rfl, C, _, _, hb, by show p'.toL :: toLs rest = _; rw [he]⟩
  · rw [if_neg ht]
    refine (charsTail_any C B b g cap p rest n W0 w h hl x hx hz ht).mono ?_
    rintro e w' ⟨rfl, p', hb, he⟩
    exact ⟨rfl, C, _, _, hb, by show p'.toL :: toLs rest = _; rw [he]⟩
end Go.Proofs.YtiejmkjpgjbodaaGreatDoor

