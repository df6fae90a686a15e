/- WALK of muslinref20.Tree and of the law PlainTrees. Written by wip/tools/plaintrees.py. No statement is proved here. Own work of the verifier. -/
import Derived.Test.YtdeaofnhdbhknaaPnLv
import Derived.Test.YtdeaofnhdbhknaaPnRb
import Derived.Test.YtdeaofnhdbhknaaRef06C
import Derived.Test.YtdeaofnhdbhknaaPlainJoinedLaw
namespace Go.Proofs.Ytdeaofnhdbhknaa
open Go.RowKit
set_option linter.unusedVariables false
set_option linter.unusedSimpArgs false
set_option maxRecDepth 100000
set_option maxHeartbeats 2000000 in
theorem refTree_any (s : ByteArray) (w : World) (hs : s.size ≤ 1000000) :
    Calls Try.prog 14 #[.string s] w fun e w' => ∃ u, e = .returned u ∧ NodesC (FreshB w.heap.size w') w' u (plainP s.data.toList) ∧ Below w.heap.size w w' := by
  obtain ⟨ca, -⟩ := cutL_sizes s.data.toList
  have hxm := cutL_size s.data.toList
  rw [toList_length] at ca
  have hR : RowsQ 0 := rows_all 20 0 rfl
  have HR : Hid (∀ v w1, TxIn w1 v (cutL s.data.toList) → Calls Try.prog 24 #[v, .int .i64 0] w1 fun e w' => ∃ u, e = .returned u ∧ NodesC (FreshB w1.heap.size w') w' u (plainP s.data.toList) ∧ Below w1.heap.size w1 w') := hide (fun v w1 h => by
    have h2 := hR v (cutL s.data.toList) w1 (by omega) (fun x hx => by have := hxm x hx; rw [toList_length] at this; omega) h
    unfold lowL at h2
    rw [lowBy_zero] at h2
    exact h2)
  have HC := hide (cut06_any s w (by omega))
  clear ca hxm hR
  go_enter Try.func14, Try.ntmps14
  go_wp2_with fail
  refine HC.out.mono ?_
  rintro e w1 ⟨v1, rfl, hb1⟩
  have HB1 := hide hb1
  have HR1 := hide (HR.out v1 w1 (TxIn.of_buf hb1))
  clear hb1 HC HR
  go_wp2_with fail
  refine HR1.out.mono ?_
  rintro e w2 ⟨u, rfl, hn, hb⟩
  have HN := hide hn
  have HB := hide hb
  clear hn hb HR1
  go_wp2_with fail
  go_ret
  exact ⟨_, rfl, FreshB.up HN.out HB1.out.below.size, bl_two HB1.out.below HB.out⟩
set_option maxHeartbeats 8000000 in
theorem law_PlainTrees (s : ByteArray) (hmx : s.size ≤ maxLen) (w : World) :
    Calls Try.prog 3 #[.string s] w fun e w' => e = .returned (.bool true) ∧ Below w.heap.size w w' := by
  have hL0 : ∀ w1 : World, Below w.heap.size w w1 → Calls Try.prog 9 #[] w1 fun e w' => e = .returned (.bool true) ∧ Below w.heap.size w w' := fun w1 hb => (live20_any w1).mono fun e w' ⟨h1, h2⟩ => ⟨h1, bl_two hb h2⟩
  have HLV := hide hL0
  clear hL0 hmx
  by_cases hbig : 3000 < s.size
  · have t0 : decide ((3000 : Int) < (s.size : Int)) = true := decide_eq_true (by omega)
    go_enter Try.func3, Try.ntmps3
    go_wp2_with fail
    refine (HLV.out w (Below.refl _ _)).mono ?_
    rintro e wl ⟨rfl, hb⟩
    go_wp2_with fail
    go_ret
    exact ⟨rfl, hb⟩
  · have t0 : decide ((3000 : Int) < (s.size : Int)) = false := decide_eq_false (by omega)
    have hV := level_any s w (by omega)
    have hW := refLevel_below s w (by omega)
    unfold levelV at hV hW
    obtain ⟨p, hp⟩ : ∃ p, p = levelL s.data.toList := ⟨_, rfl⟩
    rw [← hp] at hV hW
    obtain ⟨Z, hZ⟩ : ∃ Z, Z = str p.2 := ⟨_, rfl⟩
    rw [← hZ] at hV hW
    have q1 : (Z.toList == Z.toList) = true := beq_self_eq_true _
    have HV := hide hV
    have HW := hide hW
    have HTS := hide (fun w1 : World => plainTree_any s w1 (by omega))
    have HTR := hide (fun w1 : World => refTree_any s w1 (by omega))
    obtain ⟨c1, -, -⟩ := plainP_size s.data.toList
    rw [toList_length] at c1
    obtain ⟨P, hP⟩ : ∃ P, P = plainP s.data.toList := ⟨_, rfl⟩
    have HFW : Hid (P.all attrsFew = true) := hide (by rw [hP]; exact plainP_few _)
    have HCN : Hid (P.count < 1048576) := hide (by rw [hP]; omega)
    rw [← hP] at HTS HTR
    clear hbig hV hW hp hZ hP c1
    go_enter Try.func3, Try.ntmps3
    go_wp2_with fail
    refine HV.out.mono ?_
    rintro e w1 ⟨rfl, rfl⟩
    go_wp2_with fail
    refine HW.out.mono ?_
    rintro e w2 ⟨rfl, hb2⟩
    have HB2 := hide hb2
    clear hb2 HV HW
    go_wp2_with fail
    refine (HTS.out w2).mono ?_
    rintro e w3 ⟨u3, rfl, hn3, hb3⟩
    have HN3 : Hid (NodesIn w3 u3 P) := hide (hn3.mono (fun _ _ => rfl) (fun b hb => hb.2))
    have HB3 := hide (bl_two HB2.out hb3)
    clear hn3 hb3
    go_wp2_with fail
    refine (HTR.out w3).mono ?_
    rintro e w4 ⟨u4, rfl, hn4, hb4⟩
    have HN4 : Hid (NodesIn w4 u4 P) := hide (hn4.mono (fun _ _ => rfl) (fun b hb => hb.2))
    have HB4 := hide (bl_two HB3.out hb4)
    have HSM : Hid (Calls Try.prog 12 #[u3, u4] w4 fun e w' => e = .returned (.bool true) ∧ Below w1.heap.size w1 w') := hide (by
      refine (same14_any _ _ _ _ w4 HCN.out (NodesIn.kept HN3.out hb4) HN4.out HFW.out).mono ?_
      rintro e w12 ⟨rfl, m, rfl⟩
      have h2 := HB4.out
      exact ⟨by rw [decide_eq_true rfl], h2.os, h2.tape, h2.output, h2.size, h2.block⟩)
    clear hn4 hb4
    go_wp2_with fail
    refine HSM.out.mono ?_
    rintro e w5 ⟨rfl, hb5⟩
    have HB5 := hide hb5
    clear hb5
    go_wp2_with fail
    refine (HLV.out w5 HB5.out).mono ?_
    rintro e wl ⟨rfl, hb⟩
    go_wp2_with fail
    go_ret
    exact ⟨rfl, hb⟩
end Go.Proofs.Ytdeaofnhdbhknaa
