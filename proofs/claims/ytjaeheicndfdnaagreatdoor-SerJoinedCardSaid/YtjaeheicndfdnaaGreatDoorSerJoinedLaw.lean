/- WALK of the law SerJoined. No statement is proved here. Own work of the verifier. -/
import Derived.Test.YtjaeheicndfdnaaGreatDoorRef15L
import Derived.Test.YtjaeheicndfdnaaGreatDoorRef14K
import Derived.Test.YtjaeheicndfdnaaGreatDoorSerP
import Derived.Test.YtjaeheicndfdnaaGreatDoorNBuf
namespace Go.Proofs.YtjaeheicndfdnaaGreatDoor
open Go.RowKit
set_option linter.unusedVariables false
set_option linter.unusedSimpArgs false
set_option maxRecDepth 100000
theorem below_row {w w1 w2 : World} {r : Option Nat} (h : Below w.heap.size w w1) (hg : w1.grownBy w2 r) (hr : ∀ k, r = some k → w.heap.size ≤ k) : Below w.heap.size w w2 := h.grown hg h.size hr
set_option maxHeartbeats 8000000 in
theorem law_SerJoined (va : Value) (TA : Tr) {w : World} (hA : NodesIn w va TA) (vb : Value) (TB : Tr) (hB : NodesIn w vb TB) (hE : EnvX w) :
    Calls Tryz.prog 6 #[va, vb] w fun e w' => e = .returned (.bool true) ∧ Below w.heap.size w w' := by
  obtain ⟨A1, c1, rfl⟩ := NodesC.form hA
  obtain ⟨A2, c2, rfl⟩ := NodesC.form hB
  have hm1 := NodesC.cap hA
  have hm2 := NodesC.cap hB
  have HS1 := hide (small14_any _ TA w hA (Nat.le_trans hm1.2.1 hm1.2.2))
  have HS2 : Hid (∀ w', Below w.heap.size w w' → Calls Tryz.prog 16 #[.slice A2 TB.len c2] w' fun e w'' => ∃ b : Bool, e = .returned (.bool b) ∧ (b = true → TB.count ≤ 60 ∧ TB.all smallH = true) ∧ Below w'.heap.size w' w'') := hide (fun w' hb => small14_any _ TB w' (hB.kept hb) (Nat.le_trans hm2.2.1 hm2.2.2))
  have HE := hide hE
  have HA := hide hA
  have HB := hide hB
  clear hE hm1 hm2 hA hB
  go_enter Tryz.func6, Tryz.ntmps6
  go_wp2_with fail
  refine HS1.out.mono ?_
  rintro e w1 ⟨b, rfl, hs, hb1⟩
  have HB1 := hide hb1
  clear hb1
  cases b with
  | false =>
    clear hs
    go_wp2_with fail
    refine (live15_any _ (HE.out.kept HB1.out)).mono ?_
    rintro e wl ⟨rfl, hbl⟩
    have HBL := hide (bl_two HB1.out hbl)
    clear hbl
    go_wp2_with fail
    go_ret
    exact ⟨rfl, HBL.out⟩
  | true =>
  have HC1 := hide (hs rfl)
  clear hs
  go_wp2_with fail
  refine (HS2.out _ HB1.out).mono ?_
  rintro e w2 ⟨b, rfl, hs, hb2⟩
  have HB2 := hide (bl_two HB1.out hb2)
  clear hb2
  cases b with
  | false =>
    clear hs
    go_wp2_with fail
    refine (live15_any _ (HE.out.kept HB2.out)).mono ?_
    rintro e wl ⟨rfl, hbl⟩
    have HBL := hide (bl_two HB2.out hbl)
    clear hbl
    go_wp2_with fail
    go_ret
    exact ⟨rfl, HBL.out⟩
  | true =>
  have HC2 := hide (hs rfl)
  clear hs
  obtain ⟨XA, hXA⟩ : ∃ X, X = str (writeT TA) := ⟨_, rfl⟩
  obtain ⟨XB, hXB⟩ : ∃ X, X = str (writeT TB) := ⟨_, rfl⟩
  obtain ⟨YA, hYA⟩ : ∃ X, X = str (textT TA) := ⟨_, rfl⟩
  obtain ⟨YB, hYB⟩ : ∃ X, X = str (textT TB) := ⟨_, rfl⟩
  have s1 := writeT_len TA HC1.out.2
  have s2 := writeT_len TB HC2.out.2
  have s3 := textT_len TA HC1.out.2
  have s4 := textT_len TB HC2.out.2
  have hc1 := HC1.out.1
  have hc2 := HC2.out.1
  have z1 : XA.size ≤ 5100000 := by rw [hXA, str_size]; omega
  have z2 : XB.size ≤ 5100000 := by rw [hXB, str_size]; omega
  have z3 : YA.size ≤ 5100000 := by rw [hYA, str_size]; omega
  have z4 : YB.size ≤ 5100000 := by rw [hYB, str_size]; omega
  have HKA : Hid (∀ w', Below w.heap.size w w' → Calls Tryz.prog 19 #[.slice A1 TA.len c1] w' (fun e w'' => e = .returned (.string XA) ∧ Below w'.heap.size w' w'') ∧ Calls Tryz.prog 21 #[.slice A1 TA.len c1] w' (fun e w'' => e = .returned (.string YA) ∧ Below w'.heap.size w' w'')) := hide (fun w' hb => by
    rw [hXA, hYA]
    exact ⟨serWrite_any _ TA w' (HE.out.kept hb) (HA.out.kept hb) HC1.out.2 (by omega) (by omega), serText_any _ TA w' (HA.out.kept hb) (by omega) (by omega)⟩)
  have HKB : Hid (∀ w', Below w.heap.size w w' → Calls Tryz.prog 19 #[.slice A2 TB.len c2] w' (fun e w'' => e = .returned (.string XB) ∧ Below w'.heap.size w' w'') ∧ Calls Tryz.prog 21 #[.slice A2 TB.len c2] w' (fun e w'' => e = .returned (.string YB) ∧ Below w'.heap.size w' w'')) := hide (fun w' hb => by
    rw [hXB, hYB]
    exact ⟨serWrite_any _ TB w' (HE.out.kept hb) (HB.out.kept hb) HC2.out.2 (by omega) (by omega), serText_any _ TB w' (HB.out.kept hb) (by omega) (by omega)⟩)
  have HKL : Hid (∀ w' u, NodesIn w' u (TA.app TB) → Below w.heap.size w w' → Calls Tryz.prog 19 #[u] w' (fun e w'' => e = .returned (.string (XA ++ XB)) ∧ Below w'.heap.size w' w'') ∧ Calls Tryz.prog 21 #[u] w' (fun e w'' => e = .returned (.string (YA ++ YB)) ∧ Below w'.heap.size w' w'')) := hide (fun w' u hu hb => by
    have ha : (TA.app TB).all smallH = true := by rw [app_all, HC1.out.2, HC2.out.2]; rfl
    have hc : (TA.app TB).count ≤ 120 := by rw [app_count]; omega
    rw [hXA, hXB, hYA, hYB, ← str_append, ← str_append, ← writeT_app, ← textT_app]
    exact ⟨serWrite_any _ _ w' (HE.out.kept hb) hu ha (by omega) (by rw [writeT_app, List.length_append]; omega), serText_any _ _ w' hu (by omega) (by rw [textT_app, List.length_append]; omega)⟩)
  have hl1 := Tr.len_count TA
  have hl2 := Tr.len_count TB
  have hl3 : TA.len ≤ 60 := by omega
  have hl4 : TB.len ≤ 60 := by omega
  clear s1 s2 s3 s4 hXA hXB hYA hYB hc1 hc2 hl1 hl2
  have HNA : Hid (NodesC (fun b => b < w.heap.size) w2 (.slice A1 TA.len c1) TA) := hide (NodesC.mono HA.out (fun b hb => HB2.out.block b hb) (fun _ x => x))
  have HNB : Hid (NodesC (fun b => b < w.heap.size) w2 (.slice A2 TB.len c2) TB) := hide (NodesC.mono HB.out (fun b hb => HB2.out.block b hb) (fun _ x => x))
  have HSZ : Hid (w.heap.size ≤ w2.heap.size) := hide HB2.out.size
  go_wp2_with (first
    | (refine wpList_nodes rfl _ _ rfl (fun b => b < w.heap.size) w2.heap.size (.slice A3 qs1.length c3) qs1 rfl HK3.out (fun k hk => Nat.lt_of_lt_of_le hk HSZ3.out) HZ3.out _ rfl TB (HNB.out.mono (fun b hb => HG3.out b hb) (fun _ x => x)) (by rw [HQ3.out]; omega) ?_
       intro v4 qs4 w4 hk4 he4 hg4 hor4
       have HKR := hide hk4
       have HE4 := hide he4
       have HG4 := hide hg4
       obtain ⟨A4, c4, hv4, hcc4⟩ := hk4.slice
       rw [List.length_append, HQ3.out, show qs4.length = TB.len by rw [← Tr.len_list, ← he4, List.length_map]] at hv4
       subst hv4
       clear hk4 he4 hg4 hor4 hcc4)
    | (refine wpList_nodes rfl _ _ rfl (fun b => b < w.heap.size) w2.heap.size (.slice none 0 0) [] rfl (KRow.nil _ _ _) (fun k hk => Nat.lt_of_lt_of_le hk HSZ.out) (Nat.le_refl _) _ rfl TA (by first | exact HNA.out | exact HNA.out.mono (fun _ _ => rfl) (fun _ x => x)) (by simp only [List.length_nil]; omega) ?_
       intro v3 qs1 w3 hk3 he3 hg3 hor3
       rw [List.nil_append] at hk3
       have HQ3 : Hid (qs1.length = TA.len) := hide (by rw [← Tr.len_list, ← he3, List.length_map])
       obtain ⟨A3, c3, hv3, hcc3⟩ := hk3.slice
       subst hv3
       have HK3 := hide hk3
       have HE3 := hide he3
       have HB3 : Hid (Below w.heap.size w w3) := hide (below_row HB2.out (show w2.grownBy w3 none from hg3) (fun k e => by cases e))
       have HZ3 : Hid (w2.heap.size ≤ w3.heap.size) := hide hg3.size
       have HSZ3 : Hid (w.heap.size ≤ w3.heap.size) := hide HB3.out.size
       have HG3 : Hid (∀ b, b < w.heap.size → w3.heap[b]? = w2.heap[b]?) := hide (fun b hb => hg3.block b (Nat.lt_of_lt_of_le hb HSZ.out) (by simp [Value.ownBlock]))
       clear hk3 he3 hg3 hor3 hcc3))
  have HB4 : Hid (Below w.heap.size w w4) := hide (below_row HB3.out HG4.out (fun k e => Nat.le_trans HSZ.out (HK3.out.row.lt k e).1))
  have HN4 : Hid (NodesIn w4 (.slice A4 (TA.len + TB.len) c4) (TA.app TB)) := hide (by
    have h := KRow.nodes (C' := fun b => b < w4.heap.size) HKR.out (fun b hb => Nat.lt_of_lt_of_le hb HB4.out.size) (fun k e => (HKR.out.row.lt k e).2)
    rw [List.map_append, HE3.out, HE4.out, Tr.of_app, Tr.of_list, Tr.of_list] at h
    exact h)
  refine (HKL.out _ _ HN4.out HB4.out).1.mono ?_
  rintro e w5 ⟨rfl, hb5⟩
  have HB5 := hide (bl_two HB4.out hb5)
  have HN5 := hide (HN4.out.kept hb5)
  clear hb5
  go_wp2_with fail
  refine (HKA.out _ HB5.out).1.mono ?_
  rintro e w6 ⟨rfl, hb6⟩
  have HB6 := hide (bl_two HB5.out hb6)
  have HN6 := hide (HN5.out.kept hb6)
  clear hb6
  go_wp2_with fail
  refine (HKB.out _ HB6.out).1.mono ?_
  rintro e w7 ⟨rfl, hb7⟩
  have HB7 := hide (bl_two HB6.out hb7)
  have HN7 := hide (HN6.out.kept hb7)
  clear hb7
  go_wp2_with fail
  refine (HKL.out _ _ HN7.out HB7.out).2.mono ?_
  rintro e w8 ⟨rfl, hb8⟩
  have HB8 := hide (bl_two HB7.out hb8)
  clear hb8
  go_wp2_with fail
  refine (HKA.out _ HB8.out).2.mono ?_
  rintro e w9 ⟨rfl, hb9⟩
  have HB9 := hide (bl_two HB8.out hb9)
  clear hb9
  go_wp2_with fail
  refine (HKB.out _ HB9.out).2.mono ?_
  rintro e wa ⟨rfl, hba⟩
  have HBA := hide (bl_two HB9.out hba)
  clear hba
  go_wp2_with fail
  refine (live15_any _ (HE.out.kept HBA.out)).mono ?_
  rintro e wl ⟨rfl, hbl⟩
  have HBL := hide (bl_two HBA.out hbl)
  clear hbl
  go_wp2_with fail
  go_ret
  exact ⟨rfl, HBL.out⟩
end Go.Proofs.YtjaeheicndfdnaaGreatDoor
