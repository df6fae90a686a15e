/- WALK of the law FoldOnce. No statement is proved here. Own work of the verifier. Written by wip/tools/foldlaws.py. -/
import Derived.Test.YtjaeheicndfdnaaDoorFoldL
import Derived.Test.YtjaeheicndfdnaaDoorFoldN
import Derived.Test.YtjaeheicndfdnaaDoorFoldV
namespace Go.Proofs.YtjaeheicndfdnaaDoor
open Go.RowKit
set_option linter.unusedVariables false
set_option linter.unusedSimpArgs false
set_option maxRecDepth 100000
set_option maxHeartbeats 8000000 in
theorem law_FoldOnce (v : Value) (T : Tr) {w : World} (hT : NodesIn w v T) (hU : Utf8T w) :
    Calls Tryd.prog 5 #[v] w fun e w' => e = .returned (.bool true) ∧ Below w.heap.size w w' := by
  obtain ⟨A, c, rfl⟩ := NodesC.form hT
  have hm := (NodesC.cap hT)
  have HSM := hide (small14_any _ T w hT (Nat.le_trans hm.2.1 hm.2.2))
  have HU := hide hU
  have HT := hide hT
  clear hU hm hT
  have HW : Hid (∀ u U w', NodesIn w' u U → Below w.heap.size w w' → U.count ≤ 100 → U.all smallH = true → Calls Tryd.prog 11 #[u] w' fun e w'' => e = .returned (.tuple #[.int .i64 ((whereP (dOf U)).1 : Int), .bool (whereP (dOf U)).2]) ∧ Below w'.heap.size w' w'') := hide (fun u U w' hu hb hc ha => where_any u U w' hu (utf8_kept HU.out hb) (by have := Tr.len_count U; omega) (small_text ha))
  have HF : Hid (∀ u U w', NodesIn w' u U → Below w.heap.size w w' → U.count ≤ 100 → U.all smallH = true → Calls Tryd.prog 14 #[u] w' fun e w'' => ∃ u', e = .returned u' ∧ NodesIn w'' u' (foldT U) ∧ Below w'.heap.size w' w'') := hide (fun u U w' hu hb hc ha => fold_any u U w' hu (utf8_kept HU.out hb) (by omega) (small_few ha) (small_text ha))
  have HO : Hid (∀ u U w', NodesIn w' u U → Below w.heap.size w w' → U.count ≤ 100 → U.all smallH = true → Calls Tryd.prog 16 #[u] w' fun e w'' => ∃ u', e = .returned u' ∧ NodesIn w'' u' (openT U) ∧ Below w'.heap.size w' w'') := hide (fun u U w' hu hb hc ha => open_any u U w' hu (by omega) (small_few ha))
  have HS : Hid (∀ u1 u2 U w', NodesIn w' u1 U → NodesIn w' u2 U → Below w.heap.size w w' → U.count ≤ 100 → U.all smallH = true → Calls Tryd.prog 13 #[u1, u2] w' fun e w'' => e = .returned (.bool true) ∧ Below w'.heap.size w' w'') := hide (fun u1 u2 U w' h1 h2 hb hc ha => by
    refine (same14_any u1 u2 U U w' (by omega) h1 h2 (small_few ha)).mono ?_
    rintro e w2 ⟨rfl, m, rfl⟩
    exact ⟨by rw [decide_eq_true rfl], below_of13 ⟨m, rfl⟩⟩)
  have HL : Hid (∀ w', Below w.heap.size w w' → Calls Tryd.prog 9 #[] w' fun e w'' => e = .returned (.bool true) ∧ Below w.heap.size w w'') := hide (fun w' hb => (live21_any w' (utf8_kept HU.out hb)).mono (fun e w'' h => ⟨h.1, bl_two hb h.2⟩))
  go_enter Tryd.func5, Tryd.ntmps5
  go_wp2_with fail
  refine HSM.out.mono ?_
  rintro e w1 ⟨b, rfl, hs, hb1⟩
  have HB1 := hide hb1
  have HT1 := hide (HT.out.kept hb1)
  clear hb1
  cases b with
  | false =>
    clear hs
    go_wp2_with fail
    refine (HL.out _ HB1.out).mono ?_
    rintro e wl ⟨rfl, hbl⟩
    have HBL := hide hbl
    clear hbl
    go_wp2_with fail
    go_ret
    exact ⟨rfl, HBL.out⟩
  | true =>
  obtain ⟨hc, ha⟩ := hs rfl
  have HC : Hid (T.count ≤ 100) := hide (by omega)
  have HC6 := hide hc
  have HA := hide ha
  clear hc ha hs
  have HC7 : Hid ((foldT T).count ≤ 100) := hide (by have h1 := fold_count_le T; have h2 := HC6.out; omega)
  have HA7 := hide (fold_small HA.out)
  go_wp2_with fail
  refine (HF.out _ T _ HT1.out HB1.out HC.out HA.out).mono ?_
  rintro e w3 ⟨u, rfl, hu, hbx⟩
  have HB3 := hide (bl_two HB1.out hbx)
  have HUU := hide hu
  obtain ⟨A3, c3, rfl⟩ := NodesC.form hu
  clear hu hbx
  obtain ⟨⟨p, is⟩, hp⟩ : ∃ x, whereP (dOf (foldT T)) = x := ⟨_, rfl⟩
  have hf := fold_where (T := T)
  rw [hp] at hf
  simp only at hf
  subst hf
  go_wp2_with fail
  refine (HW.out _ (foldT T) _ HUU.out HB3.out HC7.out HA7.out).mono ?_
  rintro e w4 ⟨rfl, hbx⟩
  have HB4 := hide (bl_two HB3.out hbx)
  have HU4 := hide (HUU.out.kept hbx)
  rw [hp]
  clear hbx hp
  go_wp2_with fail
  refine (HF.out _ (foldT T) _ HU4.out HB4.out HC7.out HA7.out).mono ?_
  rintro e w5 ⟨u5, rfl, hu5, hbx⟩
  rw [fold_fold] at hu5
  have HB5 := hide (bl_two HB4.out hbx)
  have HU5 := hide hu5
  have HU6 := hide (HU4.out.kept hbx)
  obtain ⟨A5, c5, rfl⟩ := NodesC.form hu5
  clear hu5 hbx
  go_wp2_with fail
  refine (HS.out _ _ (foldT T) _ HU5.out HU6.out HB5.out HC7.out HA7.out).mono ?_
  rintro e w6 ⟨rfl, hbx⟩
  have HB6 := hide (bl_two HB5.out hbx)
  clear hbx
  go_wp2_with fail
  refine (HL.out _ HB6.out).mono ?_
  rintro e wl ⟨rfl, hbl⟩
  have HBL := hide hbl
  clear hbl
  go_wp2_with fail
  go_ret
  exact ⟨rfl, HBL.out⟩
end Go.Proofs.YtjaeheicndfdnaaDoor
