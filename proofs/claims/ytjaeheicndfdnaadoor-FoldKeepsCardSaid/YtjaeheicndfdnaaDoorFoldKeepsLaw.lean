/- WALK of the law FoldKeeps. No statement is proved here. Own work of the verifier. Written by wip/tools/foldlaws.py. -/
import Derived.Test.YtjaeheicndfdnaaDoorFoldL
import Derived.Test.YtjaeheicndfdnaaDoorFoldN
import Derived.Test.YtjaeheicndfdnaaDoorFoldV
namespace Go.Proofs.YtjaeheicndfdnaaDoor
open Go.RowKit
set_option linter.unusedVariables false
set_option linter.unusedSimpArgs false
set_option maxRecDepth 100000
set_option maxHeartbeats 8000000 in
theorem law_FoldKeeps (v : Value) (T : Tr) {w : World} (hT : NodesIn w v T) (hU : Utf8T w) :
    Calls Tryd.prog 6 #[v] w fun e w' => e = .returned (.bool true) ∧ Below w.heap.size w w' := by
  obtain ⟨A, c, rfl⟩ := NodesC.form hT
  have hm := (NodesC.cap hT)
  have HSM := hide (small14_any _ T w hT (Nat.le_trans hm.2.1 hm.2.2))
  have HU := hide hU
  have HT := hide hT
  clear hU hm hT
  have HW : Hid (∀ u U w', NodesIn w' u U → Below w.heap.size w w' → U.count ≤ 100 → U.all smallH = true → Calls Tryd.prog 11 #[u] w' fun e w'' => e = .returned (.tuple #[.int .i64 ((whereP (dOf U)).1 : Int), .bool (whereP (dOf U)).2]) ∧ Below w'.heap.size w' w'') := hide (fun u U w' hu hb hc ha => where_any u U w' hu (utf8_kept HU.out hb) (by have := Tr.len_count U; omega) (small_text ha))
  have HF : Hid (∀ u U w', NodesIn w' u U → Below w.heap.size w w' → U.count ≤ 100 → U.all smallH = true → Calls Tryd.prog 14 #[u] w' fun e w'' => ∃ u', e = .returned u' ∧ NodesIn w'' u' (foldT U) ∧ Below w'.heap.size w' w'') := hide (fun u U w' hu hb hc ha => fold_any u U w' hu (utf8_kept HU.out hb) (by omega) (small_few ha) (small_text ha))
  have HO : Hid (∀ u U w', NodesIn w' u U → Below w.heap.size w w' → U.count ≤ 100 → U.all smallH = true → Calls Tryd.prog 16 #[u] w' fun e w'' => ∃ u', e = .returned u' ∧ NodesIn w'' u' (openT U) ∧ Below w'.heap.size w' w'') := hide (fun u U w' hu hb hc ha => open_any u U w' hu (by omega) (small_few ha))
  have HS : Hid (∀ u1 u2 U w', NodesIn w' u1 U → NodesIn w' u2 U → Below w.heap.size w w' → U.count ≤ 100 → U.all smallH = true → Calls Tryd.prog 13 #[u1, u2] w' fun e w'' => e = .returned (.bool true) ∧ Below w'.heap.size w' w'') := hide (fun u1 u2 U w' h1 h2 hb hc ha => by
    refine (same14_any u1 u2 U U w' (by omega) h1 h2 (small_few ha)).mono ?_
    rintro e w2 ⟨rfl, m, rfl⟩
    exact ⟨by rw [decide_eq_true rfl], below_of13 ⟨m, rfl⟩⟩)
  have HL : Hid (∀ w', Below w.heap.size w w' → Calls Tryd.prog 9 #[] w' fun e w'' => e = .returned (.bool true) ∧ Below w.heap.size w w'') := hide (fun w' hb => (live21_any w' (utf8_kept HU.out hb)).mono (fun e w'' h => ⟨h.1, bl_two hb h.2⟩))
  go_enter Tryd.func6, Tryd.ntmps6
  go_wp2_with fail
  refine HSM.out.mono ?_
  rintro e w1 ⟨b, rfl, hs, hb1⟩
  have HB1 := hide hb1
  have HT1 := hide (HT.out.kept hb1)
  clear hb1
  cases b with
  | false =>
    clear hs
    go_wp2_with fail
    refine (HL.out _ HB1.out).mono ?_
    rintro e wl ⟨rfl, hbl⟩
    have HBL := hide hbl
    clear hbl
    go_wp2_with fail
    go_ret
    exact ⟨rfl, HBL.out⟩
  | true =>
  obtain ⟨hc, ha⟩ := hs rfl
  have HC : Hid (T.count ≤ 100) := hide (by omega)
  have HC6 := hide hc
  have HA := hide ha
  clear hc ha hs
  have HC7 : Hid ((foldT T).count ≤ 100) := hide (by have h1 := fold_count_le T; have h2 := HC6.out; omega)
  have HN : Hid (∀ u U w', NodesIn w' u U → U.count ≤ 100 → Calls Tryd.prog 18 #[u] w' fun e w'' => e = .returned (.int .i64 (U.count : Int)) ∧ Below w'.heap.size w' w'') := hide (fun u U w' hu hc => count14_any u U w' hu (by omega))
  have hlc := Tr.len_count T
  have hct : T.count ≤ 60 := HC6.out
  obtain ⟨⟨p, is⟩, hp⟩ : ∃ x, whereP (dOf T) = x := ⟨_, rfl⟩
  have HP := hide hp
  go_wp2_with fail
  refine (HW.out _ T _ HT1.out HB1.out HC.out HA.out).mono ?_
  rintro e w2 ⟨rfl, hbx⟩
  have HB2 := hide (bl_two HB1.out hbx)
  have HT2 := hide (HT1.out.kept hbx)
  clear hbx
  rw [hp]
  clear hp
  go_wp2_with fail
  refine (HF.out _ T _ HT2.out HB2.out HC.out HA.out).mono ?_
  rintro e w3 ⟨u, rfl, hu, hbx⟩
  have HB3 := hide (bl_two HB2.out hbx)
  have HT3 := hide (HT2.out.kept hbx)
  cases is with
  | false =>
    rw [foldT_no HP.out] at hu
    obtain rfl := whereP_zero HP.out
    have HUU := hide hu
    obtain ⟨A3, c3, rfl⟩ := NodesC.form hu
    clear hu hbx
    go_wp2_with fail
    refine (HN.out _ T _ HUU.out HC.out).mono ?_
    rintro e w4 ⟨rfl, hbx⟩
    have HB4 := hide (bl_two HB3.out hbx)
    have HT4 := hide (HT3.out.kept hbx)
    clear hbx
    go_wp2_with fail
    refine (HN.out _ T _ HT4.out HC.out).mono ?_
    rintro e w5 ⟨rfl, hbx⟩
    have HB5 := hide (bl_two HB4.out hbx)
    clear hbx
    go_wp2_with fail
    refine (HL.out _ HB5.out).mono ?_
    rintro e wl ⟨rfl, hbl⟩
    have HBL := hide hbl
    clear hbl
    go_wp2_with fail
    go_ret
    exact ⟨rfl, HBL.out⟩
  | true =>
    have HUU := hide hu
    have hfc := fold_count HP.out
    have hfl := fold_len HP.out
    have hpp := whereP_pos HP.out
    have hpl : p ≤ T.len := by
      have := whereP_le (dOf T)
      rw [HP.out] at this
      unfold dOf at this
      rw [List.length_map, Tr.len_list] at this
      exact this
    obtain ⟨A3, c3, rfl⟩ := NodesC.form hu
    rw [hfl] at HUU ⊢
    have HCC := hide hfc
    have e1 : (((foldT T).count : Int) == (T.count : Int) + 1) = true := by rw [hfc, beq_iff_eq]; omega
    clear hu hbx hfc hfl
    go_wp2_with fail
    refine (HN.out _ (foldT T) _ HUU.out HC7.out).mono ?_
    rintro e w4 ⟨rfl, hbx⟩
    have HB4 := hide (bl_two HB3.out hbx)
    have HT4 := hide (HT3.out.kept hbx)
    rw [HCC.out]
    clear hbx
    go_wp2_with fail
    refine (HN.out _ T _ HT4.out HC.out).mono ?_
    rintro e w5 ⟨rfl, hbx⟩
    have HB5 := hide (bl_two HB4.out hbx)
    clear hbx
    go_wp2_with fail
    refine (HL.out _ HB5.out).mono ?_
    rintro e wl ⟨rfl, hbl⟩
    have HBL := hide hbl
    clear hbl
    go_wp2_with fail
    go_ret
    exact ⟨rfl, HBL.out⟩
end Go.Proofs.YtjaeheicndfdnaaDoor
