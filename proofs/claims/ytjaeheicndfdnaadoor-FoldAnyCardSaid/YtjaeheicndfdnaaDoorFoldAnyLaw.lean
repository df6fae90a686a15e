/- WALK of the law FoldAny. No statement is proved here. Own work of the verifier. Written by wip/tools/foldlaws.py. -/
import Derived.Test.YtjaeheicndfdnaaDoorFoldL
import Derived.Test.YtjaeheicndfdnaaDoorFoldV
import Derived.Test.YtjaeheicndfdnaaDoorFoldJ
namespace Go.Proofs.YtjaeheicndfdnaaDoor
open Go.RowKit
set_option linter.unusedVariables false
set_option linter.unusedSimpArgs false
set_option maxRecDepth 100000
theorem open_few {T : Tr} {n : Nat} (hc : T.count ≤ n) (ha : T.all attrsFew = true) : (openT T).count ≤ n ∧ (openT T).all attrsFew = true := by
  rcases List.eq_nil_or_concat T.list with h0 | ⟨l, ⟨h, K⟩, h0⟩
  · have : openT T = T := by unfold openT; rw [h0]; rfl
    rw [this]; exact ⟨hc, ha⟩
  · rw [List.concat_eq_append] at h0
    have hT : T = (Tr.of l).app (.cons h K .nil) := by
      apply Tr.list_inj
      rw [h0, Tr.list_app, Tr.list_of]; rfl
    have ho : openT T = if isFoldN h = true then (Tr.of l).app K else T := by
      unfold openT
      rw [h0, List.getLast?_concat, List.dropLast_concat]
    rw [ho]
    split
    · have h1 := app_count (Tr.of l) (.cons h K .nil)
      have h2 := app_all attrsFew (Tr.of l) (.cons h K .nil)
      rw [← hT] at h1 h2
      rw [ha] at h2
      have h3 := Bool.and_eq_true_iff.1 h2.symm
      simp only [Tr.all, Bool.and_true, Bool.and_eq_true] at h3
      simp only [Tr.count] at h1
      rw [app_count, app_all, h3.1, h3.2.2]
      exact ⟨by omega, rfl⟩
    · exact ⟨hc, ha⟩
set_option maxHeartbeats 8000000 in
theorem law_FoldAny (v : Value) (T : Tr) {w : World} (hT : NodesIn w v T) (hU : Utf8T w) :
    Calls Tryd.prog 3 #[v] w fun e w' => e = .returned (.bool true) ∧ Below w.heap.size w w' := by
  obtain ⟨A, c, rfl⟩ := NodesC.form hT
  have hm := (NodesC.cap hT)
  have HSM := hide (small14_any _ T w hT (Nat.le_trans hm.2.1 hm.2.2))
  have HU := hide hU
  have HT := hide hT
  clear hU hm hT
  have HW : Hid (∀ u U w', NodesIn w' u U → Below w.heap.size w w' → U.count ≤ 100 → U.all smallH = true → Calls Tryd.prog 11 #[u] w' fun e w'' => e = .returned (.tuple #[.int .i64 ((whereP (dOf U)).1 : Int), .bool (whereP (dOf U)).2]) ∧ Below w'.heap.size w' w'') := hide (fun u U w' hu hb hc ha => where_any u U w' hu (utf8_kept HU.out hb) (by have := Tr.len_count U; omega) (small_text ha))
  have HF : Hid (∀ u U w', NodesIn w' u U → Below w.heap.size w w' → U.count ≤ 100 → U.all smallH = true → Calls Tryd.prog 14 #[u] w' fun e w'' => ∃ u', e = .returned u' ∧ NodesIn w'' u' (foldT U) ∧ Below w'.heap.size w' w'') := hide (fun u U w' hu hb hc ha => fold_any u U w' hu (utf8_kept HU.out hb) (by omega) (small_few ha) (small_text ha))
  have HO : Hid (∀ u U w', NodesIn w' u U → Below w.heap.size w w' → U.count ≤ 100 → U.all smallH = true → Calls Tryd.prog 16 #[u] w' fun e w'' => ∃ u', e = .returned u' ∧ NodesIn w'' u' (openT U) ∧ Below w'.heap.size w' w'') := hide (fun u U w' hu hb hc ha => open_any u U w' hu (by omega) (small_few ha))
  have HS : Hid (∀ u1 u2 U w', NodesIn w' u1 U → NodesIn w' u2 U → Below w.heap.size w w' → U.count ≤ 100 → U.all smallH = true → Calls Tryd.prog 13 #[u1, u2] w' fun e w'' => e = .returned (.bool true) ∧ Below w'.heap.size w' w'') := hide (fun u1 u2 U w' h1 h2 hb hc ha => by
    refine (same14_any u1 u2 U U w' (by omega) h1 h2 (small_few ha)).mono ?_
    rintro e w2 ⟨rfl, m, rfl⟩
    exact ⟨by rw [decide_eq_true rfl], below_of13 ⟨m, rfl⟩⟩)
  have HL : Hid (∀ w', Below w.heap.size w w' → Calls Tryd.prog 9 #[] w' fun e w'' => e = .returned (.bool true) ∧ Below w.heap.size w w'') := hide (fun w' hb => (live21_any w' (utf8_kept HU.out hb)).mono (fun e w'' h => ⟨h.1, bl_two hb h.2⟩))
  go_enter Tryd.func3, Tryd.ntmps3
  go_wp2_with fail
  refine HSM.out.mono ?_
  rintro e w1 ⟨b, rfl, hs, hb1⟩
  have HB1 := hide hb1
  have HT1 := hide (HT.out.kept hb1)
  clear hb1
  cases b with
  | false =>
    clear hs
    go_wp2_with fail
    refine (HL.out _ HB1.out).mono ?_
    rintro e wl ⟨rfl, hbl⟩
    have HBL := hide hbl
    clear hbl
    go_wp2_with fail
    go_ret
    exact ⟨rfl, HBL.out⟩
  | true =>
  obtain ⟨hc, ha⟩ := hs rfl
  have HC : Hid (T.count ≤ 100) := hide (by omega)
  have HC6 := hide hc
  have HA := hide ha
  clear hc ha hs
  have HCP : Hid (∀ u w', NodesIn w' u T → Calls Tryd.prog 10 #[u] w' fun e w'' => ∃ u', e = .returned u' ∧ NodesIn w'' u' T ∧ Below w'.heap.size w' w'') := hide (fun u w' hu => (copy14_any u T w' hu (by have := HC.out; omega) (small_few HA.out)).mono (fun e w'' ⟨u', h1, h2, h3⟩ => ⟨u', h1, newB_in h2, h3⟩))
  have HRW : Hid (∀ u w', NodesIn w' u T → Calls Tryd.prog 12 #[u] w' fun e w'' => e = .returned (.tuple #[.int .i64 ((whereP (dOf T)).1 : Int), .bool (whereP (dOf T)).2]) ∧ Below w'.heap.size w' w'') := hide (fun u w' hu => where21_any u T w' hu (by have := Tr.len_count T; have := HC.out; omega) (small_text HA.out))
  have HRF : Hid (∀ u w', NodesIn w' u T → Calls Tryd.prog 15 #[u] w' fun e w'' => ∃ u', e = .returned u' ∧ NodesIn w'' u' (foldT T) ∧ Below w'.heap.size w' w'') := hide (fun u w' hu => fold21_any u T w' hu (by have := HC.out; omega) (small_few HA.out) (small_text HA.out))
  have HRO : Hid (∀ u w', NodesIn w' u T → Calls Tryd.prog 17 #[u] w' fun e w'' => ∃ u', e = .returned u' ∧ NodesIn w'' u' (openT T) ∧ Below w'.heap.size w' w'') := hide (fun u w' hu => open21_any u T w' hu (by have := HC.out; omega) (small_few HA.out))
  have HSS : Hid (∀ u1 u2 U w', NodesIn w' u1 U → NodesIn w' u2 U → U.count ≤ 1000 → U.all attrsFew = true → Calls Tryd.prog 13 #[u1, u2] w' fun e w'' => e = .returned (.bool true) ∧ Below w'.heap.size w' w'') := hide (fun u1 u2 U w' h1 h2 hc ha => by
    refine (same14_any u1 u2 U U w' (by omega) h1 h2 ha).mono ?_
    rintro e w2 ⟨rfl, m, rfl⟩
    exact ⟨by rw [decide_eq_true rfl], below_of13 ⟨m, rfl⟩⟩)
  have HC7 : Hid ((foldT T).count ≤ 1000 ∧ (foldT T).all attrsFew = true) := hide ⟨by have h1 := fold_count_le T; have h2 := HC6.out; omega, small_few (fold_small HA.out)⟩
  have HC8 : Hid ((openT T).count ≤ 1000 ∧ (openT T).all attrsFew = true) := hide (open_few (by have := HC6.out; omega) (small_few HA.out))
  go_wp2_with fail
  refine (HCP.out _ _ HT1.out).mono ?_
  rintro e w2 ⟨uo, rfl, hu, hbx⟩
  have HB2 := hide (bl_two HB1.out hbx)
  have HT2 := hide (HT1.out.kept hbx)
  have HU2 := hide hu
  obtain ⟨Ao, co, rfl⟩ := NodesC.form hu
  clear hu hbx
  obtain ⟨⟨p, is⟩, hp⟩ : ∃ x, whereP (dOf T) = x := ⟨_, rfl⟩
  rw [hp] at HRW
  go_wp2_with fail
  refine (HW.out _ T _ HU2.out HB2.out HC.out HA.out).mono ?_
  rintro e w3 ⟨rfl, hbx⟩
  have HB3 := hide (bl_two HB2.out hbx)
  have HU3 := hide (HU2.out.kept hbx)
  have HT3 := hide (HT2.out.kept hbx)
  rw [hp]
  clear hbx hp
  go_wp2_with fail
  refine (HRW.out _ _ HT3.out).mono ?_
  rintro e w4 ⟨rfl, hbx⟩
  have HB4 := hide (bl_two HB3.out hbx)
  have HU4 := hide (HU3.out.kept hbx)
  have HT4 := hide (HT3.out.kept hbx)
  clear hbx
  have ebb : (is == is) = true := by cases is <;> rfl
  go_wp2_with fail
  refine (HF.out _ T _ HU4.out HB4.out HC.out HA.out).mono ?_
  rintro e w5 ⟨u5, rfl, hu, hbx⟩
  have HB5 := hide (bl_two HB4.out hbx)
  have HU5 := hide (HU4.out.kept hbx)
  have HT5 := hide (HT4.out.kept hbx)
  have HX5 := hide hu
  obtain ⟨A5, c5, rfl⟩ := NodesC.form hu
  clear hu hbx
  go_wp2_with fail
  refine (HRF.out _ _ HT5.out).mono ?_
  rintro e w6 ⟨u6, rfl, hu, hbx⟩
  have HB6 := hide (bl_two HB5.out hbx)
  have HU6 := hide (HU5.out.kept hbx)
  have HT6 := hide (HT5.out.kept hbx)
  have HX6 := hide (HX5.out.kept hbx)
  have HY6 := hide hu
  obtain ⟨A6, c6, rfl⟩ := NodesC.form hu
  clear hu hbx
  go_wp2_with fail
  refine (HSS.out _ _ (foldT T) _ HX6.out HY6.out HC7.out.1 HC7.out.2).mono ?_
  rintro e w7 ⟨rfl, hbx⟩
  have HB7 := hide (bl_two HB6.out hbx)
  have HU7 := hide (HU6.out.kept hbx)
  have HT7 := hide (HT6.out.kept hbx)
  clear hbx
  go_wp2_with fail
  refine (HO.out _ T _ HU7.out HB7.out HC.out HA.out).mono ?_
  rintro e w8 ⟨u8, rfl, hu, hbx⟩
  have HB8 := hide (bl_two HB7.out hbx)
  have HU8 := hide (HU7.out.kept hbx)
  have HT8 := hide (HT7.out.kept hbx)
  have HX8 := hide hu
  obtain ⟨A8, c8, rfl⟩ := NodesC.form hu
  clear hu hbx
  go_wp2_with fail
  refine (HRO.out _ _ HT8.out).mono ?_
  rintro e w9 ⟨u9, rfl, hu, hbx⟩
  have HB9 := hide (bl_two HB8.out hbx)
  have HU9 := hide (HU8.out.kept hbx)
  have HT9 := hide (HT8.out.kept hbx)
  have HX9 := hide (HX8.out.kept hbx)
  have HY9 := hide hu
  obtain ⟨A9, c9, rfl⟩ := NodesC.form hu
  clear hu hbx
  go_wp2_with fail
  refine (HSS.out _ _ (openT T) _ HX9.out HY9.out HC8.out.1 HC8.out.2).mono ?_
  rintro e w10 ⟨rfl, hbx⟩
  have HB10 := hide (bl_two HB9.out hbx)
  have HU10 := hide (HU9.out.kept hbx)
  have HT10 := hide (HT9.out.kept hbx)
  clear hbx
  go_wp2_with fail
  refine (HS.out _ _ T _ HU10.out HT10.out HB10.out HC.out HA.out).mono ?_
  rintro e w11 ⟨rfl, hbx⟩
  have HB11 := hide (bl_two HB10.out hbx)
  clear hbx
  go_wp2_with fail
  refine (HL.out _ HB11.out).mono ?_
  rintro e wl ⟨rfl, hbl⟩
  have HBL := hide hbl
  clear hbl
  go_wp2_with fail
  go_ret
  exact ⟨rfl, HBL.out⟩
end Go.Proofs.YtjaeheicndfdnaaDoor
