/- WALK of the reference of layer 17: Clean. No statement is proved here. Own work of the verifier. -/
import Derived.Test.YtklbdobofclofaaGreatDoorCssV
import Derived.Test.YtklbdobofclofaaGreatDoorCssT
import Derived.Test.YtklbdobofclofaaGreatDoorCssD
import Derived.BigQuiet
import Derived.Deep.QuietTactic
namespace Go.Proofs.YtklbdobofclofaaGreatDoor
open Go.RowKit
set_option linter.unusedVariables false
set_option linter.unusedSimpArgs false
set_option maxRecDepth 100000
def lastB (D : List DeclL) (i m : Nat) (d : DeclL) : Bool := safeD d && !(((D.take m).drop (i + 1)).any (fun e => e.1 == d.1 && safeD e))
theorem lastB_start (D : List DeclL) (i : Nat) (d : DeclL) : lastB D i (i + 1) d = safeD d := by
  unfold lastB
  rw [List.drop_eq_nil_of_le (List.length_take_le _ _)]
  simp
theorem lastB_step {D : List DeclL} {i m : Nat} {d e : DeclL} (he : D[m]? = some e) (hm : i + 1 ≤ m) : lastB D i (m + 1) d = (lastB D i m d && !(e.1 == d.1 && safeD e)) := by
  have hlt := (List.getElem?_eq_some_iff.1 he).1
  unfold lastB
  rw [List.take_add_one, he, List.drop_append_of_le_length (by rw [List.length_take]; omega), List.any_append]
  simp [Bool.and_assoc]
theorem lastB_end {D : List DeclL} {i : Nat} {d : DeclL} (hd : D[i]? = some d) : lastD (D.drop i) = if lastB D i D.length d = true then d :: lastD (D.drop (i + 1)) else lastD (D.drop (i + 1)) := by
  obtain ⟨hlt, rfl⟩ := List.getElem?_eq_some_iff.1 hd
  rw [List.drop_eq_getElem_cons hlt, lastD]
  unfold lastB
  rw [List.take_length]
  cases h1 : safeD D[i] <;> cases h2 : (D.drop (i + 1)).any (fun e => e.1 == D[i].1 && safeD e) <;> simp
theorem joinD_snoc (A : List DeclL) (d : DeclL) (h : A ≠ []) : joinD (A ++ [d]) = joinD A ++ [59, 32] ++ showD d := by
  induction A with
  | nil => exact absurd rfl h
  | cons a r ih =>
    cases r with
    | nil => simp [joinD]
    | cons b r =>
      have := ih (by simp)
      simp only [List.cons_append] at this ⊢
      rw [joinD, this]
      simp [joinD]
theorem joinD_ne (A : List DeclL) (h : A ≠ []) : joinD A ≠ [] := by
  cases A with
  | nil => exact absurd rfl h
  | cons a r =>
    cases r with
    | nil => simp [joinD, showD]
    | cons b r => simp [joinD, showD]
theorem eqF17 {a b : List UInt8} (h : a ≠ b) : (a == b) = false := beq_eq_false_iff_ne.2 h
set_option maxHeartbeats 4000000 in
theorem ref17Clean_any (s : ByteArray) (w : World) (hs : s.size ≤ 1048575) :
    Calls Tryz.prog 27 #[.string s] w fun e w' => e = .returned (.string (str (cleanD s.data.toList))) ∧ Below w.heap.size w w' := by
  obtain ⟨D, hD⟩ : ∃ D, cutD s.data.toList = D := ⟨_, rfl⟩
  have hDW : declW D ≤ 1048576 := by
    have h8 := cutD_weight s.data.toList
    rw [hD, toList_length] at h8
    omega
  have hDl : D.length ≤ 1048576 := Nat.le_trans (declW_len D) hDW
  have HDW : Hid (∀ d ∈ D, d.1.length + d.2.length ≤ 1048576) := hide (fun d hd => by have := declW_mem hd; omega)
  have HJ : Hid (∀ A B : List DeclL, A ++ B = lastD D → (joinD A).length ≤ 4194304) := hide (fun A B h => by
    have h1 := joinD_len A
    have h2 : A.Sublist D := (by rw [← h]; exact List.sublist_append_left A B : A.Sublist (lastD D)).trans (lastD_sub D)
    have h3 := declW_sub h2
    omega)
  have HCD : Hid (cleanD s.data.toList = joinD (lastD D)) := hide (by unfold cleanD; rw [hD])
  have HD := hide hD
  clear hD hDW
  go_enter Tryz.func27, Tryz.ntmps27
  go_wp2_with fail
  refine (ref17Cut_any s w hs).mono ?_
  rintro e w1 ⟨v1, rfl, hd1⟩
  rw [HD.out] at hd1
  have HB1 := hide hd1.below
  have F1 := hide hd1.in
  obtain ⟨A1, c1, rfl⟩ := hd1.slice_len
  clear hd1
  go_wp2_with fail
  go_loopw [4, 5] (fun o i wr => ∃ (k : Nat) (A : List DeclL) (O : ByteArray), k ≤ D.length ∧ i = .int .i64 k ∧ o = .string O ∧ Hid (O = str (joinD A)) ∧ Hid (A ++ lastD (D.drop k) = lastD D) ∧ Hid (Below w1.heap.size w1 wr)) (fun _ i _ => D.length - (intOf i).toNat)
  case atStart => exact ⟨0, [], ⟨#[]⟩, Nat.zero_le _, rfl, rfl, hide rfl, hide rfl, hide (Below.refl _ _)⟩
  case round =>
    obtain ⟨k, A, O, hk, rfl, rfl, HO, HA, HB⟩ := hrel
    by_cases hlt : k < D.length
    · obtain ⟨d, hd⟩ : ∃ d, D[k]? = some d := ⟨_, List.getElem?_eq_getElem hlt⟩
      have hdz := HDW.out d (List.mem_of_getElem? hd)
      have hOz : O.size ≤ 4194304 := by rw [HO.out, str_size]; exact HJ.out _ _ HA.out
      obtain ⟨X1, hX1⟩ : ∃ X, X = str d.1 := ⟨_, rfl⟩
      obtain ⟨X2, hX2⟩ : ∃ X, X = str d.2 := ⟨_, rfl⟩
      obtain ⟨a, ha, hc1, hc2⟩ := (F1.out.kept HB.out).at k d hd
      subst ha
      rw [← hX1] at hc1
      rw [← hX2] at hc2
      have z1 : X1.size ≤ 1048576 := by rw [hX1, str_size]; omega
      have z2 : X2.size ≤ 1048576 := by rw [hX2, str_size]; omega
      have HSAFE : Hid (∀ q, Calls Tryz.prog 43 #[.string X1, .string X2] (wr.drewN q) fun e w' => e = .returned (.bool (lastB D k (k + 1) d)) ∧ w' = wr.drewN q) := hide (fun q =>
        (ref17Safe_any X1 X2 (wr.drewN q) z2).mono fun e w' ⟨he, hw⟩ => ⟨by
          rw [he, hX1, hX2, str_toList, str_toList, lastB_start], hw.symm⟩)
      have HDK := hide hd
      have HX1 := hide hX1
      have HX2 := hide hX2
      clear hd hdz hX1 hX2
      go_wp2_with fail
      go_quiet ((go_at_call 43; exact Calls.quiet_of_same (HSAFE.out _)))
      have HBq := hide (HB.out.trans ((below_drewN17 wr nq).mono HB.out.size))
      obtain ⟨wq, hwq⟩ : ∃ wq, wr.drewN nq = wq := ⟨_, rfl⟩
      rw [hwq] at HBq ⊢
      clear hwq hc1 hc2
      go_wp2_with fail
      go_loopw [6, 7] (fun b j wx => ∃ m : Nat, k + 1 ≤ m ∧ m ≤ D.length ∧ j = .int .i64 m ∧ b = .bool (lastB D k m d) ∧ Hid (Below w1.heap.size w1 wx)) (fun _ j _ => D.length - (intOf j).toNat)
      case atStart => exact ⟨k + 1, Nat.le_refl _, hlt, by go_num, rfl, HBq⟩
      case round =>
        obtain ⟨m, hkm, hm, rfl, rfl, HBx⟩ := hrel
        by_cases hml : m < D.length
        · obtain ⟨e, he⟩ : ∃ e, D[m]? = some e := ⟨_, List.getElem?_eq_getElem hml⟩
          have hez := HDW.out e (List.mem_of_getElem? he)
          have hst := lastB_step (d := d) he hkm
          obtain ⟨Y1, hY1⟩ : ∃ X, X = str e.1 := ⟨_, rfl⟩
          obtain ⟨Y2, hY2⟩ : ∃ X, X = str e.2 := ⟨_, rfl⟩
          obtain ⟨b, hb, hd1, hd2⟩ := (F1.out.kept HBx.out).at m e he
          obtain ⟨b2, hb2, hc1, hc2⟩ := (F1.out.kept HBx.out).at k d HDK.out
          injection hb with hb
          subst hb
          injection hb2 with hb2
          subst hb2
          rw [← hY1] at hd1
          rw [← hY2] at hd2
          rw [← HX1.out] at hc1
          rw [← HX2.out] at hc2
          have z3 : Y2.size ≤ 1048576 := by rw [hY2, str_size]; omega
          by_cases hne : e.1 = d.1
          · have t2 : (Y1.toList == X1.toList) = true := by rw [hY1, HX1.out, hne]; exact beq_self_eq_true _
            have hY12 : Y1 = X1 := by rw [hY1, HX1.out, hne]
            cases hse : safeD e with
            | true =>
              have HSAFE2 : Hid (∀ q, Calls Tryz.prog 43 #[.string Y1, .string Y2] (wr.drewN q) fun e w' => e = .returned (.bool true) ∧ w' = wr.drewN q) := hide (fun q =>
                (ref17Safe_any Y1 Y2 (wr.drewN q) z3).mono fun e' w' ⟨he, hw⟩ => ⟨by
                  rw [he, hY1, hY2, str_toList, str_toList]
                  exact congrArg (fun b => Ending.returned (Value.bool b)) hse, hw.symm⟩)
              have HN : Hid (lastB D k (m + 1) d = false) := hide (by rw [hst, hse, hne]; simp)
              clear he hez hst hY1 hY2 hne hse z3 hY12
              go_wp2_with fail
              go_quiet ((go_at_call 43; exact Calls.quiet_of_same (HSAFE2.out _)))
              go_wp2_with fail
              go_roundw
              case rel => exact ⟨m + 1, by omega, by omega, by go_num, by rw [HN.out], hide (HBx.out.trans ((below_drewN17 _ nq).mono HBx.out.size))⟩
              case measure => simp [intOf]; omega
            | false =>
              have HSAFE2 : Hid (∀ q, Calls Tryz.prog 43 #[.string Y1, .string Y2] (wr.drewN q) fun e w' => e = .returned (.bool false) ∧ w' = wr.drewN q) := hide (fun q =>
                (ref17Safe_any Y1 Y2 (wr.drewN q) z3).mono fun e' w' ⟨he, hw⟩ => ⟨by
                  rw [he, hY1, hY2, str_toList, str_toList]
                  exact congrArg (fun b => Ending.returned (Value.bool b)) hse, hw.symm⟩)
              have HN : Hid (lastB D k m d = lastB D k (m + 1) d) := hide (by rw [hst, hse]; simp)
              clear he hez hst hY1 hY2 hne hse z3 hY12
              go_wp2_with fail
              go_quiet ((go_at_call 43; exact Calls.quiet_of_same (HSAFE2.out _)))
              go_wp2_with fail
              go_roundw
              case rel => exact ⟨m + 1, by omega, by omega, by go_num, by rw [HN.out], hide (HBx.out.trans ((below_drewN17 _ nq).mono HBx.out.size))⟩
              case measure => simp [intOf]; omega
          · have t2 : (Y1.toList == X1.toList) = false := by
              rw [hY1, HX1.out, bytes_list, bytes_list, str_toList, str_toList]; exact eqF17 hne
            have HN : Hid (lastB D k m d = lastB D k (m + 1) d) := hide (by rw [hst, eqF17 hne]; simp)
            clear he hez hst hY1 hY2 hne z3
            go_wp2_with fail
            go_quiet (fail)
            go_wp2_with fail
            go_roundw
            case rel => exact ⟨m + 1, by omega, by omega, by go_num, by rw [HN.out], hide (HBx.out.trans ((below_drewN17 _ nq).mono HBx.out.size))⟩
            case measure => simp [intOf]; omega
        · obtain rfl : m = D.length := by omega
          have hend := lastB_end HDK.out
          cases hB : lastB D k D.length d with
          | false =>
            have HN : Hid (A ++ lastD (D.drop (k + 1)) = lastD D) := hide (by rw [← HA.out, hend, hB]; rfl)
            clear hend hB
            go_wp2_with fail
            go_roundw
            case rel => exact ⟨k + 1, A, O, by omega, by go_num, rfl, HO, HN, HBx⟩
            case measure => simp [intOf]; omega
          | true =>
            have HN : Hid ((A ++ [d]) ++ lastD (D.drop (k + 1)) = lastD D) := hide (by rw [← HA.out, hend, hB]; simp)
            obtain ⟨b2, hb2, hc1, hc2⟩ := (F1.out.kept HBx.out).at k d HDK.out
            injection hb2 with hb2
            subst hb2
            rw [← HX1.out] at hc1
            rw [← HX2.out] at hc2
            clear hend hB
            by_cases hA0 : A = []
            · have t0 : O.toList.isEmpty = true := by rw [HO.out, hA0, str_list]; rfl
              have HV : Hid (O ++ X1 ++ ⟨#[58, 32]⟩ ++ X2 = str (joinD (A ++ [d]))) := hide (by
                rw [HO.out, HX1.out, HX2.out, hA0]
                show str [] ++ str d.1 ++ str [58, 32] ++ str d.2 = str (showD d)
                rw [← str_append, ← str_append, ← str_append]
                unfold showD
                simp)
              clear hA0
              go_wp2_with fail
              go_quiet (fail)
              go_wp2_with fail
              go_roundw
              case rel => exact ⟨k + 1, A ++ [d], _, by omega, by go_num, rfl, HV, HN, hide (HBx.out.trans ((below_drewN17 _ nq).mono HBx.out.size))⟩
              case measure => simp [intOf]; omega
            · have t0 : O.toList.isEmpty = false := by
                rw [HO.out, str_list]
                cases e : joinD A with
                | nil => exact absurd e (joinD_ne A hA0)
                | cons a r => rfl
              have HV : Hid (O ++ ⟨#[59, 32]⟩ ++ X1 ++ ⟨#[58, 32]⟩ ++ X2 = str (joinD (A ++ [d]))) := hide (by
                rw [HO.out, HX1.out, HX2.out, joinD_snoc A d hA0]
                show str (joinD A) ++ str [59, 32] ++ str d.1 ++ str [58, 32] ++ str d.2 = _
                rw [← str_append, ← str_append, ← str_append, ← str_append]
                unfold showD
                simp)
              clear hA0
              go_wp2_with fail
              go_quiet (fail)
              go_wp2_with fail
              go_roundw
              case rel => exact ⟨k + 1, A ++ [d], _, by omega, by go_num, rfl, HV, HN, hide (HBx.out.trans ((below_drewN17 _ nq).mono HBx.out.size))⟩
              case measure => simp [intOf]; omega
    · have HX : Hid (str (cleanD s.data.toList) = O) := hide (by
        have := HA.out
        rw [List.drop_eq_nil_of_le (by omega)] at this
        rw [HCD.out, HO.out, ← this]
        show str (joinD (A ++ [])) = _
        rw [List.append_nil])
      go_wp2_with fail
      go_ret
      exact ⟨by rw [HX.out]; rfl, HB1.out.trans (HB.out.mono HB1.out.size)⟩
end Go.Proofs.YtklbdobofclofaaGreatDoor
