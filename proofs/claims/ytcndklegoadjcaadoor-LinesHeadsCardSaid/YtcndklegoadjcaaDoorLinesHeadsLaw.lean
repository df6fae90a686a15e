/- WALK of the law LinesHeads. No statement is proved here. -/
import Derived.Test.YtcndklegoadjcaaDoorLinesLaw0
import Derived.Test.YtcndklegoadjcaaDoorRef06H
import Derived.Test.YtcndklegoadjcaaDoorRef06G
namespace Go.Proofs.YtcndklegoadjcaaDoor
open Go.RowKit
set_option linter.unusedVariables false
set_option linter.unusedSimpArgs false
set_option maxRecDepth 100000

set_option maxHeartbeats 4000000 in
theorem law_LinesHeads (s name : ByteArray) (w : World) : Calls Tryd.prog 3 #[.string s, .string name] w fun e w' => e = .returned (.bool true) ∧ Below w.heap.size w w' := by
  by_cases h_s : ¬ s.size ≤ 5000
  · go_enter Tryd.func3, Tryd.ntmps3
    go_wp2_with fail
    refine (short06_any s _).mono ?_
    rintro e wq ⟨rfl, rfl⟩
    rw [show decide (s.size ≤ 5000) = false from decide_eq_false h_s]
    go_wp2_with fail

    refine (live6_any _).mono ?_
    rintro e wl ⟨rfl, hbl⟩
    go_wp2_with fail
    go_ret
    exact ⟨rfl, (Below.refl w.heap.size w).trans (hbl.mono (Below.refl w.heap.size w).size)⟩

  replace h_s := Decidable.not_not.1 h_s
  by_cases h_name : ¬ name.size ≤ 5000
  · go_enter Tryd.func3, Tryd.ntmps3
    go_wp2_with fail
    refine (short06_any s _).mono ?_
    rintro e wq ⟨rfl, rfl⟩
    rw [show decide (s.size ≤ 5000) = true from decide_eq_true h_s]
    go_wp2_with fail

    refine (short06_any name _).mono ?_
    rintro e wq ⟨rfl, rfl⟩
    rw [show decide (name.size ≤ 5000) = false from decide_eq_false h_name]
    go_wp2_with fail

    refine (live6_any _).mono ?_
    rintro e wl ⟨rfl, hbl⟩
    go_wp2_with fail
    go_ret
    exact ⟨rfl, (Below.refl w.heap.size w).trans (hbl.mono (Below.refl w.heap.size w).size)⟩

  replace h_name := Decidable.not_not.1 h_name
  have hs20 : s.size ≤ 1048576 := by omega
  have hn46 : name.size ≤ 70368744177664 := by omega
  obtain ⟨L, hL⟩ : ∃ L, L = (headL s.data.toList).1 := ⟨_, rfl⟩
  obtain ⟨BD, hBD⟩ : ∃ BD, BD = str (headL s.data.toList).2 := ⟨_, rfl⟩
  obtain ⟨CL, hCL⟩ : ∃ CL, CL = (cutL s.data.toList).map str := ⟨_, rfl⟩
  have HL := hide hL
  have HBD := hide hBD
  have HCL := hide hCL
  have hz : ∀ f ∈ L, f.1.length ≤ 70368744177664 ∧ f.2.length ≤ 70368744177664 := by
    intro f hf
    rw [hL] at hf
    have := head_size s.data.toList f hf
    rw [toList_length] at this
    omega
  have hLn : L.length ≤ 1048576 := by rw [hL]; have := (head_ok s.data.toList).2.1; omega
  have HZ := hide hz
  have HLN := hide hLn
  have HLN7 : Hid (L.length ≤ 70368744177664) := hide (by omega)
  have HCN : Hid (CL.length ≤ 1048576) := hide (by
    rw [hCL, List.length_map, ← each_cut, List.length_map]
    have := (each_sum s.data.toList).2.1
    rw [toList_length] at this; omega)
  obtain ⟨gv, hgv⟩ : ∃ gv, gv = getL L name.data.toList := ⟨_, rfl⟩
  have HGV := hide hgv
  obtain ⟨G1, G2, hg⟩ : ∃ G1 G2, getV gv = .tuple #[.string G1, .bool G2] := by
    cases gv with
    | none => exact ⟨_, _, rfl⟩
    | some x => exact ⟨_, _, rfl⟩
  have HGE := hide hg
  have q1 : (BD.toList == BD.toList) = true := beq_self_eq_true _
  have q2 : (G1.toList == G1.toList) = true := beq_self_eq_true _
  have q3 : (G2 == G2) = true := beq_self_eq_true _
  clear hL hBD hCL hz hLn hgv hg
  go_enter Tryd.func3, Tryd.ntmps3
  go_wp2_with fail
  refine (short06_any s _).mono ?_
  rintro e wq ⟨rfl, rfl⟩
  rw [show decide (s.size ≤ 5000) = true from decide_eq_true h_s]
  go_wp2_with fail

  refine (short06_any name _).mono ?_
  rintro e wq ⟨rfl, rfl⟩
  rw [show decide (name.size ≤ 5000) = true from decide_eq_true h_name]
  go_wp2_with fail

  refine (head_any s hs20 _).mono ?_
  rintro e w1 ⟨v1, rfl, hf1⟩
  rw [← HL.out] at hf1
  rw [← HBD.out]
  obtain ⟨A1, c1, rfl⟩ := hf1.slice_len
  have K1 := hide hf1.below
  have F1 := hide hf1.in
  clear hf1
  go_wp2_with fail
  refine (head06_any s _ hs20).mono ?_
  rintro e w2 ⟨v2, rfl, hf2⟩
  rw [← HL.out] at hf2
  rw [← HBD.out]
  obtain ⟨A2, c2, rfl⟩ := hf2.slice_len
  have K2 := hide (K1.out.trans (hf2.below.mono K1.out.size))
  have F12 := hide (F1.out.kept hf2.below)
  have F2 := hide hf2.in
  clear hf2
  go_wp2_with fail
  refine (get_any _ L name _ F12.out hn46 HZ.out HLN7.out).mono ?_
  rintro e w3 ⟨rfl, hb3⟩
  rw [← HGV.out, HGE.out]
  have K3 := hide (K2.out.trans (hb3.mono K2.out.size))
  have F13 := hide (F12.out.kept hb3)
  have F23 := hide (F2.out.kept hb3)
  clear hb3
  go_wp2_with fail
  refine (get06_any _ L name _ F23.out hn46 HZ.out HLN7.out).mono ?_
  rintro e w4 ⟨rfl, hb4⟩
  rw [← HGV.out, HGE.out]
  have K4 := hide (K3.out.trans (hb4.mono K3.out.size))
  have F14 := hide (F13.out.kept hb4)
  have F24 := hide (F23.out.kept hb4)
  clear hb4
  go_wp2_with fail
  refine (same06_any _ _ L L _ F14.out F24.out HLN.out).mono ?_
  rintro e w5 ⟨rfl, hb5⟩
  rw [show decide (L = L) = true from decide_eq_true rfl]
  have K5 := hide (K4.out.trans (hb5.mono K4.out.size))
  clear hb5
  go_wp2_with fail
  refine (cut_any06 s hs20 _).mono ?_
  rintro e w6 ⟨v6, rfl, hs6⟩
  rw [← HCL.out] at hs6
  obtain ⟨A6, c6, rfl⟩ := hs6.slice_len
  have K6 := hide (K5.out.trans (hs6.below.mono K5.out.size))
  have T6 := hide hs6.texts
  clear hs6
  go_wp2_with fail
  refine (cut06_any s _ hs20).mono ?_
  rintro e w7 ⟨v7, rfl, hs7⟩
  rw [← HCL.out] at hs7
  obtain ⟨A7, c7, rfl⟩ := hs7.slice_len
  have K7 := hide (K6.out.trans (hs7.below.mono K6.out.size))
  have T67 := hide (T6.out.kept hs7.below)
  have T7 := hide hs7.texts
  clear hs7
  go_wp2_with fail
  refine (texts06_any _ _ CL CL _ T67.out T7.out HCN.out).mono ?_
  rintro e w8 ⟨rfl, hb8⟩
  rw [show decide (CL = CL) = true from decide_eq_true rfl]
  have K8 := hide (K7.out.trans (hb8.mono K7.out.size))
  clear hb8
  go_wp2_with fail
  refine (live6_any _).mono ?_
  rintro e wl ⟨rfl, hbl⟩
  go_wp2_with fail
  go_ret
  exact ⟨rfl, (K8.out).trans (hbl.mono (K8.out).size)⟩

end Go.Proofs.YtcndklegoadjcaaDoor
