import Derived.Test.YtiejmkjpgjbodaaGreatDoorBaseQ
import Derived.Test.YtiejmkjpgjbodaaGreatDoorTreeY
namespace Go.Proofs.YtiejmkjpgjbodaaGreatDoor
open Go.RowKit
set_option linter.unusedVariables false
set_option linter.unusedSimpArgs false
set_option maxRecDepth 100000
theorem small_few {T : Tr} (ha : T.all smallH = true) : T.all attrsFew = true := by
  induction T with
  | nil => rfl
  | cons h K R ihk ihr =>
    simp only [Tr.all, Bool.and_eq_true] at ha ⊢
    refine ⟨?_, ihk ha.2.1, ihr ha.2.2⟩
    have h2 := ha.1
    unfold smallH fitT at h2
    simp only [Bool.and_eq_true, decide_eq_true_eq] at h2
    unfold attrsFew
    exact decide_eq_true (by omega)
theorem wide_few {T : Tr} (ha : T.all wideH = true) : T.all attrsFew = true := by
  induction T with
  | nil => rfl
  | cons h K R ihk ihr =>
    simp only [Tr.all, Bool.and_eq_true] at ha ⊢
    refine ⟨?_, ihk ha.2.1, ihr ha.2.2⟩
    have h2 := ha.1
    unfold wideH wfitT at h2
    simp only [Bool.and_eq_true, decide_eq_true_eq] at h2
    unfold attrsFew
    exact decide_eq_true (by omega)
def stableB (T : Tr) : Bool := decide (T = buildP (scanL decE [] [] (writeT T)))
set_option maxHeartbeats 4000000 in
theorem serStableW_any (v : Value) (T : Tr) (w : World) (hE : EnvX w) (hT : NodesIn w v T) (ha : T.all wideH = true) (hc : T.count < 1000000) (hl : (writeT T).length ≤ 8000000) :
    Calls Tryz.prog 9 #[v] w fun e w' => e = .returned (.bool (stableB T)) ∧ Below w.heap.size w w' := by
  obtain ⟨A, c, rfl⟩ := NodesC.form hT
  have HW := hide (serWriteW_any _ T w hE hT ha (by omega) (by omega))
  obtain ⟨S, hS⟩ : ∃ S, S = str (writeT T) := ⟨_, rfl⟩
  have hSz : S.size ≤ 8000000 := by rw [hS, str_size]; exact hl
  have hSl : S.data.toList = writeT T := by rw [hS, str_toList]
  rw [← hS] at HW
  have HB : Hid (∀ w', Below w.heap.size w w' → Calls Tryz.prog 12 #[.string S] w' fun e w'' => ∃ u, e = .returned u ∧ NodesIn w'' u (buildP (scanL decE [] [] (writeT T))) ∧ Below w'.heap.size w' w'') := hide (fun w' hb => by
    have hE' := hE.kept hb
    obtain ⟨m, hm⟩ := hE'.2
    have := treeBuild_any S m w' hSz hE'.1 hm
    rw [hSl] at this
    exact this)
  have HM : Hid (∀ w' u, Below w.heap.size w w' → NodesIn w' u (buildP (scanL decE [] [] (writeT T))) → Calls Tryz.prog 30 #[.slice A T.len c, u] w' fun e w'' => e = .returned (.bool (stableB T)) ∧ Below w'.heap.size w' w'') := hide (fun w' u hb hu =>
    serSame_any _ _ T _ w' hc (hT.kept hb) hu (wide_few ha))
  clear hE hT ha hc hl hS hSz hSl
  go_enter Tryz.func9, Tryz.ntmps9
  go_wp2_with fail
  refine HW.out.mono ?_
  rintro e w1 ⟨rfl, hb1⟩
  have HB1 := hide hb1
  clear hb1
  go_wp2_with fail
  refine (HB.out _ HB1.out).mono ?_
  rintro e w2 ⟨u, rfl, hu, hb2⟩
  have HB2 := hide (bl_two HB1.out hb2)
  have HS := hide (HM.out _ u HB2.out hu)
  obtain ⟨A2, c2, rfl⟩ := NodesC.form hu
  clear hu hb2
  go_wp2_with fail
  refine HS.out.mono ?_
  rintro e w3 ⟨rfl, hb3⟩
  have HB3 := hide (bl_two HB2.out hb3)
  clear hb3
  go_wp2_with fail
  go_ret
  exact ⟨rfl, HB3.out⟩
theorem serStable_any (v : Value) (T : Tr) (w : World) (hE : EnvX w) (hT : NodesIn w v T) (ha : T.all smallH = true) (hc : T.count < 1000000) (hl : (writeT T).length ≤ 8000000) :
    Calls Tryz.prog 9 #[v] w fun e w' => e = .returned (.bool (stableB T)) ∧ Below w.heap.size w w' :=
  serStableW_any v T w hE hT (small_wides ha) hc hl
end Go.Proofs.YtiejmkjpgjbodaaGreatDoor
