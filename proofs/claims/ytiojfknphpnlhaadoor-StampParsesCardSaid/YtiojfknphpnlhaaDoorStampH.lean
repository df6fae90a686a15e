/- WALK of the reference's Parse (stamp). No statement is proved here. -/
import Derived.Test.YtiojfknphpnlhaaDoorStampJ
import Derived.Test.YtiojfknphpnlhaaDoorStampI
import Derived.Test.YtiojfknphpnlhaaDoorStampO
import Derived.Test.YtiojfknphpnlhaaDoorStampY
import Derived.Test.YtiojfknphpnlhaaDoorStampV
import Derived.Deep.DeepMust
namespace Go.Proofs.YtiojfknphpnlhaaDoor
set_option maxRecDepth 100000
open Go.RowKit
set_option linter.unusedVariables false
set_option linter.unusedSimpArgs false

def fillZ (U : List (List UInt8)) : List (List UInt8) := if U.length = 4 then U ++ [[122]] else U
theorem read_fillZ (U : List (List UInt8)) : readV (fillZ U) = readT U := by
  unfold fillZ
  match U with
  | [] => rfl
  | [_] => rfl
  | [_, _] => rfl
  | [_, _, _] => rfl
  | [a, b, c, t] => rfl
  | [a, b, c, t, z] => rfl
  | _ :: _ :: _ :: _ :: _ :: _ :: _ => rfl
def yearR (l : List UInt8) : Int := match yearV l with | some y => y | none => -1
theorem numR_short (l : List UInt8) : numR l 1 2 = if shortB l = true then valL l else -1 := by
  unfold numR shortB numB
  by_cases h1 : 1 ≤ l.length <;> by_cases h2 : l.length ≤ 2 <;> cases hd : digB l <;> simp [h1, h2, hd] <;> omega
theorem yearR_four (l : List UInt8) (h : l.length ≠ 2) : yearR l = numR l 4 4 := by
  unfold yearR yearV numR numB
  by_cases h4 : l.length = 4
  · rw [h4]
    cases hd : digB l <;> simp [hd, h4]
  · have h0 : (decide (4 ≤ l.length) && (decide (l.length ≤ 4) && digB l)) = false := by
      rw [Bool.and_eq_false_iff]
      rcases Nat.lt_or_ge l.length 4 with h1 | h1
      · exact .inl (decide_eq_false (by omega))
      · exact .inr (by rw [show decide (l.length ≤ 4) = false from decide_eq_false (by omega)]; rfl)
    rw [h0, if_neg h4, if_neg h, show (if (decide (1 ≤ l.length) && (decide (l.length ≤ 4) && digB l)) = true then (none : Option Int) else none) = none by split <;> rfl]
    rfl
theorem yearR_two (l : List UInt8) (h : l.length = 2) : yearR l = if 0 ≤ numR l 2 2 ∧ numR l 2 2 < 50 then numR l 2 2 + 2000 else if 0 ≤ numR l 2 2 then numR l 2 2 + 1900 else numR l 2 2 := by
  rw [numR_two l h]
  unfold yearR yearV numB
  rw [h]
  cases hd : digB l
  · simp
  · have hv := valL_bd 2 l h hd
    by_cases h5 : valL l < 50
    · simp [h5, hv.1, Int.add_comm]
    · simp [h5, hv.1, Int.add_comm]
theorem dayV_R (a b c : List UInt8) : dayV a b c = if mayB (yearR c) (monV b) (numR a 1 2) = true then some (daysZ (yearR c) (monV b) (numR a 1 2)) else none := by
  unfold dayV yearR
  rw [numR_short]
  cases hs : shortB a
  · rw [if_neg (by simp), if_neg (by rw [mayB_iff]; unfold MayD; simp)]
  · rw [if_pos rfl, if_pos rfl]
    cases hy : yearV c with
    | none => simp only; rw [if_neg (by rw [mayB_iff]; unfold MayD; omega)]
    | some y => simp only
theorem yearR_bd (c : List UInt8) : -1 ≤ yearR c ∧ yearR c ≤ 20000 := by
  unfold yearR
  split
  · rename_i y e
    unfold yearV at e
    split at e
    · rename_i hn
      have hb := numB_bd hn
      split at e
      · have := Option.some.inj e; omega
      · split at e
        · split at e
          · have := Option.some.inj e; omega
          · have := Option.some.inj e; omega
        · cases e
    · cases e
  · omega
theorem numR12_bd (l : List UInt8) : -1 ≤ numR l 1 2 ∧ numR l 1 2 ≤ 9999 := by
  rw [numR_short]
  split
  · rename_i h
    unfold shortB at h
    rw [Bool.and_eq_true] at h
    have := numB_bd h.1
    omega
  · omega
theorem numR44_bd (l : List UInt8) (a b : Nat) (hb : b ≤ 4) : -1 ≤ numR l a b ∧ numR l a b ≤ 9999 := by
  unfold numR
  split
  · rename_i h
    rw [Bool.and_eq_true, Bool.and_eq_true, decide_eq_true_eq, decide_eq_true_eq] at h
    have := valL_bd4 l (by omega) h.2.2
    omega
  · omega
theorem clkR_bd (l : List UInt8) : -1 ≤ clkR l ∧ clkR l ≤ 90000 := by
  have hb := timeV_bd l
  unfold clkR
  cases h : timeV l with
  | none => exact ⟨by decide, by decide⟩
  | some v => rw [h] at hb; unfold bd90 at hb; simp only at hb ⊢; omega
theorem clkR_some {l : List UInt8} (h : 0 ≤ clkR l) : timeV l = some (clkR l) := by
  unfold clkR at *
  cases hv : timeV l with
  | none => rw [hv] at h; simp at h
  | some v => rfl
theorem clkR_none {l : List UInt8} (h : clkR l < 0) : timeV l = none := by
  have hb := timeV_bd l
  unfold clkR at h
  cases hv : timeV l with
  | none => rfl
  | some v => rw [hv] at h hb; unfold bd90 at hb; simp only at h hb; omega
theorem day_named (k : Nat) (hk : k < dayNam.length) : dayTxt.extract (4 * k) (4 * k + 3) = str (dayNam.getD k []) := by
  have hk7 : k < 7 := hk
  obtain rfl | rfl | rfl | rfl | rfl | rfl | rfl : k = 0 ∨ k = 1 ∨ k = 2 ∨ k = 3 ∨ k = 4 ∨ k = 5 ∨ k = 6 := by omega
  all_goals exact ext_list (by decide +kernel)
theorem mon_named (k : Nat) (hk : k < monNam.length) : monTxt.extract (4 * k) (4 * k + 3) = str (monNam.getD k []) := by
  have hk12 : k < 12 := hk
  obtain rfl | rfl | rfl | rfl | rfl | rfl | rfl | rfl | rfl | rfl | rfl | rfl : k = 0 ∨ k = 1 ∨ k = 2 ∨ k = 3 ∨ k = 4 ∨ k = 5 ∨ k = 6 ∨ k = 7 ∨ k = 8 ∨ k = 9 ∨ k = 10 ∨ k = 11 := by omega
  all_goals exact ext_list (by decide +kernel)
theorem refNamedDay_any (s : ByteArray) (w : World) :
    Calls Tryd.prog 23 #[.string ⟨#[116, 104, 117, 32, 102, 114, 105, 32, 115, 97, 116, 32, 115, 117, 110, 32, 109, 111, 110, 32, 116, 117, 101, 32, 119, 101, 100, 32]⟩, .string s] w fun e w' => e = .returned (.int .i64 (findV s.data.toList dayNam 0 - 1)) ∧ w = w' :=
  refNamed_any dayTxt s dayNam w (by decide) (by decide) day_named
theorem refNamedMon_any (s : ByteArray) (w : World) :
    Calls Tryd.prog 23 #[.string ⟨#[106, 97, 110, 32, 102, 101, 98, 32, 109, 97, 114, 32, 97, 112, 114, 32, 109, 97, 121, 32, 106, 117, 110, 32, 106, 117, 108, 32, 97, 117, 103, 32, 115, 101, 112, 32, 111, 99, 116, 32, 110, 111, 118, 32, 100, 101, 99, 32]⟩, .string s] w fun e w' => e = .returned (.int .i64 (monV s.data.toList - 1)) ∧ w = w' :=
  refNamed_any monTxt s monNam w (by decide) (by decide) mon_named
set_option maxHeartbeats 4000000 in
theorem refParse_any (s : ByteArray) (w : World) (hs : s.size ≤ 1000) :
    Calls Tryd.prog 12 #[.string s] w fun e w' => e = .returned (parV (parseO s.data.toList)) ∧ Below w.heap.size w w' := by
  obtain ⟨T, hT⟩ : ∃ T, T = toksL s.data.toList := ⟨_, rfl⟩
  have hmem : ∀ p ∈ T, p.length ≤ 1000 := fun p hp => by
    rw [hT] at hp
    have := toks_mem _ p hp
    rw [toList_length] at this; omega
  have hlen : T.length ≤ 1001 := by have := toks_len s.data.toList; rw [hT]; rw [toList_length] at this; omega
  have hres : Hid (parseO s.data.toList = readV (fillZ (dropDay T))) := hide (by rw [read_fillZ, hT]; rfl)
  have HMEM := hide hmem
  have HT := hide hT
  clear hmem
  go_enter Tryd.func12, Tryd.ntmps12
  go_wp2_with fail
  refine (refTokens_any s _ (by omega)).mono ?_
  rintro e w1 ⟨v, rfl, hrow, hb⟩
  rw [← hT] at hrow
  clear hT
  have HB := hide hb
  clear hb
  rcases hrow with ⟨rfl, hnil⟩ | hrow
  · have HV : Hid (parV (parseO s.data.toList) = .tuple #[.int .i64 0, .int .i64 2]) := hide (by rw [hres.out, hnil]; rfl)
    clear hnil
    go_wp2_with fail
    go_ret2
    exact ⟨by rw [HV.out]; rfl, HB.out⟩
  obtain ⟨g, off, cap, hv, -⟩ := id hrow
  subst hv
  have HROW := hide hrow
  clear hrow
  go_upto_region 2 with (fail)
  go_cut [4, 24] (fun s4 s24 wx => s4 = .slice (some ⟨g, off, none⟩) T.length cap ∧ s24 = .bool (isDayT T) ∧ wx = w1)
  case first =>
    cases T with
    | nil =>
      go_wp2_with fail
      go_meet
      exact ⟨rfl, rfl, rfl⟩
    | cons a r =>
      have hc0 := HROW.out.cellAt 0 (by simp)
      obtain ⟨A, hA⟩ : ∃ A, A = str a := ⟨_, rfl⟩
      have hc1 : w1.cell? ⟨g, off, none⟩ = some (.string A) := by rw [hA]; exact hc0
      have HA : Hid (A.data.toList = a) := hide (by rw [hA, str_toList])
      have t1 : decide ((0 : Int) < (r.length : Int) + 1) = true := decide_eq_true (by omega)
      obtain ⟨F, hF⟩ : ∃ F, F = findV a dayNam 0 - 1 := ⟨_, rfl⟩
      have HI : Hid (isDayT (a :: r) = decide (0 ≤ F)) := hide (by
        show isDayN a = _
        unfold isDayN; rw [hF, Bool.eq_iff_iff, decide_eq_true_eq, decide_eq_true_eq]; omega)
      have HF := hide hF.symm
      clear hc0 hA hF
      go_wp2_with fail
      refine (refNamedDay_any A _).mono ?_
      rintro e w2 ⟨rfl, hw⟩
      subst hw
      rw [HA.out, HF.out]
      go_wp2_with fail
      go_meet
      exact ⟨rfl, by rw [HI.out], rfl⟩
  case rest =>
    obtain ⟨rfl, rfl, hw⟩ := hcut
    subst hw
    go_upto_if 24 with (fail)
    go_cut [4] (fun s4 wx => Hid (TRow w wx s4 (dropDay T)) ∧ wx = wc)
    case first =>
      cases T with
      | nil =>
        rw [show isDayT [] = false from rfl]
        go_wp2_with fail
        go_meet
        exact ⟨HROW, rfl⟩
      | cons a r =>
        cases hd : isDayN a
        · rw [show isDayT (a :: r) = false from hd]
          have HD : Hid (dropDay (a :: r) = a :: r) := hide (by rw [dropDay, if_neg (by simp [hd])])
          clear hd
          go_wp2_with fail
          go_meet
          exact ⟨by rw [HD.out]; exact HROW, rfl⟩
        · rw [show isDayT (a :: r) = true from hd]
          have HD : Hid (dropDay (a :: r) = r) := hide (by rw [dropDay, if_pos hd])
          have hcap : r.length + 1 ≤ cap := by
            obtain ⟨g', off', cap', e, h2, _⟩ := HROW.out
            injection e with e1 e2 e3
            rw [e3]; simpa using h2
          clear hd
          by_cases hc1 : cap = 1
          · subst hc1
            obtain ⟨rfl, ht⟩ := TRow.tail1 HROW.out
            have HTL := hide ht
            clear ht
            go_wp2_with fail
            go_meet
            exact ⟨by rw [HD.out]; exact HTL, rfl⟩
          · have HTL := hide (TRow.tail HROW.out hc1)
            have hcn : ((cap : Int) == 1) = false := beq_eq_false_iff_ne.2 (by omega)
            go_wp2_with fail
            go_meet
            exact ⟨by rw [HD.out]; exact HTL, rfl⟩
    case rest =>
      obtain ⟨HR, hw⟩ := hcut
      subst hw
      clear HROW
      obtain ⟨U, hU⟩ : ∃ U, U = dropDay T := ⟨_, rfl⟩
      have HMU : Hid (∀ p ∈ U, p.length ≤ 1000) := hide (fun p hp => HMEM.out p (drop_mem T p (hU ▸ hp)))
      have hlu : U.length ≤ 1001 := by rw [hU]; exact Nat.le_trans (drop_len T) hlen
      rw [← hU] at HR hres
      clear hU hlen HMEM HT
      obtain ⟨g2, off2, cap2, hv2, -⟩ := id HR.out
      subst hv2
      go_upto_if 29 with (fail)
      go_cut [4] (fun s4 wx => Hid (TRow w wx s4 (fillZ U)) ∧ Hid (Below w.heap.size w wx))
      case first =>
        by_cases h4 : U.length = 4
        · have HF : Hid (fillZ U = U ++ [[122]]) := hide (by unfold fillZ; rw [if_pos h4])
          have t4 : ((U.length : Int) == 4) = true := by rw [beq_iff_eq]; omega
          clear h4
          go_wp2_with (at_builtin; go_must (refine wpList_trow rfl (.tmp 30) (.tmp 31) rfl _ U rfl w _ _ [122] rfl HR.out HB.out rfl (by omega) ?_); intro v' w' h1 h2; have H1 := hide h1; have H2 := hide h2; clear h1 h2)
          go_meet
          exact ⟨by rw [HF.out]; exact H1, H2⟩
        · have HF : Hid (fillZ U = U) := hide (by unfold fillZ; rw [if_neg h4])
          have t4 : ((U.length : Int) == 4) = false := by rw [beq_eq_false_iff_ne]; omega
          clear h4
          go_wp2_with fail
          go_meet
          exact ⟨by rw [HF.out]; exact HR, HB⟩
      case rest =>
        obtain ⟨HR3, HB3⟩ := hcut
        clear HR HB
        obtain ⟨V, hV⟩ : ∃ V, V = fillZ U := ⟨_, rfl⟩
        have HMV : Hid (∀ p ∈ V, p.length ≤ 1000) := hide (fun p hp => by
          rw [hV] at hp
          unfold fillZ at hp
          split at hp
          · rcases List.mem_append.1 hp with h | h
            · exact HMU.out p h
            · simp at h; subst h; decide
          · exact HMU.out p hp)
        have hlv : V.length ≤ 1002 := by
          rw [hV]; unfold fillZ
          split
          · rw [List.length_append]; simp; omega
          · omega
        rw [← hV] at HR3 hres
        clear hV hlu HMU
        obtain ⟨g3, off3, cap3, hv3, hcap3, -, -, hg3, -⟩ := id HR3.out
        subst hv3
        by_cases h5 : V.length = 5
        · obtain ⟨a, b, c, t, z, rfl⟩ : ∃ a b c t z, V = [a, b, c, t, z] := by
            match V, h5 with
            | [a, b, c, t, z], _ => exact ⟨a, b, c, t, z, rfl⟩
          have hc0 := HR3.out.cellAt 0 (by simp)
          have hc1 := HR3.out.cellAt 1 (by simp)
          have hc2 := HR3.out.cellAt 2 (by simp)
          have hc3 := HR3.out.cellAt 3 (by simp)
          have hc4 := HR3.out.cellAt 4 (by simp)
          have za := HMV.out a (by simp)
          have zc := HMV.out c (by simp)
          have zt := HMV.out t (by simp)
          have zz := HMV.out z (by simp)
          obtain ⟨A, hA⟩ : ∃ A, A = str a := ⟨_, rfl⟩
          obtain ⟨B, hB⟩ : ∃ B, B = str b := ⟨_, rfl⟩
          obtain ⟨C, hC⟩ : ∃ C, C = str c := ⟨_, rfl⟩
          obtain ⟨E, hE⟩ : ∃ E, E = str t := ⟨_, rfl⟩
          obtain ⟨Z, hZ⟩ : ∃ Z, Z = str z := ⟨_, rfl⟩
          have r0 : wc.cell? ⟨g3, off3, none⟩ = some (.string A) := by rw [hA]; exact hc0
          have r1 : wc.cell? ⟨g3, off3 + 1, none⟩ = some (.string B) := by rw [hB]; exact hc1
          have r2 : wc.cell? ⟨g3, off3 + 2, none⟩ = some (.string C) := by rw [hC]; exact hc2
          have r3 : wc.cell? ⟨g3, off3 + 3, none⟩ = some (.string E) := by rw [hE]; exact hc3
          have r4 : wc.cell? ⟨g3, off3 + 4, none⟩ = some (.string Z) := by rw [hZ]; exact hc4
          have ZA : Hid (A.size ≤ maxLen) := hide (by rw [hA, str_size]; unfold maxLen; omega)
          have ZC : Hid (C.size ≤ maxLen) := hide (by rw [hC, str_size]; unfold maxLen; omega)
          have ZE : Hid (E.size ≤ maxLen) := hide (by rw [hE, str_size]; unfold maxLen; omega)
          have ZZ : Hid (Z.size ≤ maxLen) := hide (by rw [hZ, str_size]; unfold maxLen; omega)
          have sC : C.size ≤ 1000 := by rw [hC, str_size]; exact zc
          obtain ⟨D, hD⟩ : ∃ D, D = numR a 1 2 := ⟨_, rfl⟩
          obtain ⟨M, hM⟩ : ∃ M, M = monV b := ⟨_, rfl⟩
          obtain ⟨Y, hY⟩ : ∃ Y, Y = yearR c := ⟨_, rfl⟩
          obtain ⟨K, hK⟩ : ∃ K, K = clkR t := ⟨_, rfl⟩
          have bD : -1 ≤ D ∧ D ≤ 9999 := by rw [hD]; exact numR12_bd a
          have bM : 0 ≤ M ∧ M ≤ 12 := by rw [hM]; exact monV_bd b
          have bY : -1 ≤ Y ∧ Y ≤ 20000 := by rw [hY]; exact yearR_bd c
          have bK : -1 ≤ K ∧ K ≤ 90000 := by rw [hK]; exact clkR_bd t
          have bZ := od_zone z
          have ED : Hid (numR A.data.toList 1 2 = D) := hide (by rw [hA, str_toList, hD])
          have EM : Hid (monV B.data.toList = M) := hide (by rw [hB, str_toList, hM])
          have EK : Hid (clkR E.data.toList = K) := hide (by rw [hE, str_toList, hK])
          have EZ : Hid (optP (zoneV Z.data.toList) = .tuple #[.int .i64 (od (zoneV z)), .bool (ob (zoneV z))]) := hide (by rw [hZ, str_toList, optP_eq])
          have HPAR : Hid (parseO s.data.toList = fin (if mayB Y M D = true then some (daysZ Y M D) else none) (timeV t) (zoneV z)) := hide (by
            rw [hres.out, hY, hM, hD, ← dayV_R]; rfl)
          have HKS : Hid (0 ≤ K → timeV t = some K) := hide (by rw [hK]; exact clkR_some)
          have HKN : Hid (K < 0 → timeV t = none) := hide (by rw [hK]; exact clkR_none)
          have hsz := @ob_some (zoneV z)
          have hnz := @ob_none (zoneV z)
          have HY4 : Hid (C.size ≠ 2 → numR C.data.toList 4 4 = Y) := hide (fun h => by rw [hY, yearR_four c (by rw [hC, str_size] at h; exact h), hC, str_toList])
          have HY2 : Hid (C.size = 2 → Y = if 0 ≤ numR C.data.toList 2 2 ∧ numR C.data.toList 2 2 < 50 then numR C.data.toList 2 2 + 2000 else if 0 ≤ numR C.data.toList 2 2 then numR C.data.toList 2 2 + 1900 else numR C.data.toList 2 2) := hide (fun h => by
            rw [hY, yearR_two c (by rw [hC, str_size] at h; exact h), hC, str_toList])
          have b44 := numR44_bd C.data.toList 4 4 (by omega)
          have b22 := numR44_bd C.data.toList 2 2 (by omega)
          obtain ⟨N4, hN4⟩ : ∃ N4, N4 = numR C.data.toList 4 4 := ⟨_, rfl⟩
          obtain ⟨N2, hN2⟩ : ∃ N2, N2 = numR C.data.toList 2 2 := ⟨_, rfl⟩
          rw [← hN4] at HY4 b44
          rw [← hN2] at HY2 b22
          have E4 := hide hN4.symm
          have E2 := hide hN2.symm
          generalize zoneV z = ZV at bZ EZ HPAR hsz hnz
          have HSZ := hide hsz
          have HNZ := hide hnz
          clear hc0 hc1 hc2 hc3 hc4 za zc zt zz hA hB hC hE hZ hD hM hY hK hsz hnz hN4 hN2 h5 hlv HMV hres HR3 hcap3
          go_wp2_with fail
          refine (refNumber_any A 1 2 _ ZA.out (by omega) (by omega)).mono ?_
          rintro e w2 ⟨rfl, hw⟩
          subst hw
          rw [ED.out]
          go_wp2_with fail
          refine (refNamedMon_any B _).mono ?_
          rintro e w2 ⟨rfl, hw⟩
          subst hw
          rw [EM.out]
          go_wp2_with fail
          refine (refNumber_any C 4 4 _ ZC.out (by omega) (by omega)).mono ?_
          rintro e w2 ⟨rfl, hw⟩
          subst hw
          rw [E4.out]
          go_upto_if 53 with (fail)
          go_cut [7] (fun s7 wx => s7 = .int .i64 Y ∧ wx = wc)
          case first =>
            by_cases hc2 : C.size = 2
            · have t2 : ((C.size : Int) == 2) = true := by rw [beq_iff_eq]; omega
              have HYE := HY2.out hc2
              clear hc2 HY2 HY4
              by_cases n0 : 0 ≤ N2
              · have u0 : decide (0 ≤ N2) = true := decide_eq_true n0
                by_cases n5 : N2 < 50
                · have u1 : decide (N2 < 50) = true := decide_eq_true n5
                  rw [if_pos ⟨n0, n5⟩] at HYE
                  have HYE := hide HYE.symm
                  clear n5
                  go_wp2_with fail
                  refine (refNumber_any C 2 2 _ ZC.out (by omega) (by omega)).mono ?_
                  rintro e w2 ⟨rfl, hw⟩
                  subst hw
                  rw [E2.out]
                  go_wp2_with fail
                  go_meet
                  exact ⟨by rw [HYE.out], rfl⟩
                · have u1 : decide (N2 < 50) = false := decide_eq_false n5
                  rw [if_neg (fun x => n5 x.2), if_pos n0] at HYE
                  have HYE := hide HYE.symm
                  clear n5
                  go_wp2_with fail
                  refine (refNumber_any C 2 2 _ ZC.out (by omega) (by omega)).mono ?_
                  rintro e w2 ⟨rfl, hw⟩
                  subst hw
                  rw [E2.out]
                  go_wp2_with fail
                  go_meet
                  exact ⟨by rw [HYE.out], rfl⟩
              · have u0 : decide (0 ≤ N2) = false := decide_eq_false n0
                rw [if_neg (fun x => n0 x.1), if_neg n0] at HYE
                have HYE := hide HYE.symm
                clear n0
                go_wp2_with fail
                refine (refNumber_any C 2 2 _ ZC.out (by omega) (by omega)).mono ?_
                rintro e w2 ⟨rfl, hw⟩
                subst hw
                rw [E2.out]
                go_wp2_with fail
                go_meet
                exact ⟨by rw [HYE.out], rfl⟩
            · have t2 : ((C.size : Int) == 2) = false := by rw [beq_eq_false_iff_ne]; omega
              have HYE := hide (HY4.out hc2)
              clear hc2 HY2 HY4
              go_wp2_with fail
              go_meet
              exact ⟨by rw [HYE.out], rfl⟩
          case rest =>
            obtain ⟨rfl, hw⟩ := hcut
            subst hw
            obtain ⟨DN, hDN⟩ : ∃ DN, DN = if mayB Y M D = true then daysZ Y M D else 0 := ⟨_, rfl⟩
            obtain ⟨DE, hDE⟩ : ∃ DE : Int, DE = if mayB Y M D = true then 0 else 1 := ⟨_, rfl⟩
            have EDV : Hid (daysV Y M D = .tuple #[.int .i64 DN, .int .i64 DE]) := hide (by
              unfold daysV; rw [hDN, hDE]; split <;> rfl)
            go_wp2_with fail
            refine (refClock_any E _ ZE.out).mono ?_
            rintro e w2 ⟨rfl, hw⟩
            subst hw
            rw [EK.out]
            go_wp2_with fail
            refine (refZone_any Z _ ZZ.out).mono ?_
            rintro e w2 ⟨rfl, hw⟩
            subst hw
            rw [EZ.out]
            go_wp2_with fail
            refine (refDays_any Y M D _).mono ?_
            rintro e w2 ⟨rfl, hw⟩
            subst hw
            rw [EDV.out]
            clear r0 r1 r2 r3 r4
            cases hmay : mayB Y M D
            · have HMAY := hide hmay
              have hde : DE = 1 := by rw [hDE, hmay]; rfl
              clear hDN hDE hmay
              have u6 : (DE != 0) = true := by rw [hde]; rfl
              clear hde
              by_cases x1 : D < 0
              · have v1 : decide (D < 0) = true := decide_eq_true x1
                have HV : Hid (parV (parseO s.data.toList) = .tuple #[.int .i64 0, .int .i64 2]) := hide (by rw [HPAR.out, if_neg (by rw [HMAY.out]; simp)]; rfl)
                go_wp2_with fail
                go_ret2
                exact ⟨by rw [HV.out]; rfl, HB3.out⟩
              have v1 : decide (D < 0) = false := decide_eq_false x1
              by_cases x2 : M < 1
              · have v2 : decide (M < 1) = true := decide_eq_true x2
                have HV : Hid (parV (parseO s.data.toList) = .tuple #[.int .i64 0, .int .i64 2]) := hide (by rw [HPAR.out, if_neg (by rw [HMAY.out]; simp)]; rfl)
                go_wp2_with fail
                go_ret2
                exact ⟨by rw [HV.out]; rfl, HB3.out⟩
              have v2 : decide (M < 1) = false := decide_eq_false x2
              by_cases x3 : Y < 0
              · have v3 : decide (Y < 0) = true := decide_eq_true x3
                have HV : Hid (parV (parseO s.data.toList) = .tuple #[.int .i64 0, .int .i64 2]) := hide (by rw [HPAR.out, if_neg (by rw [HMAY.out]; simp)]; rfl)
                go_wp2_with fail
                go_ret2
                exact ⟨by rw [HV.out]; rfl, HB3.out⟩
              have v3 : decide (Y < 0) = false := decide_eq_false x3
              by_cases x4 : K < 0
              · have v4 : decide (K < 0) = true := decide_eq_true x4
                have HV : Hid (parV (parseO s.data.toList) = .tuple #[.int .i64 0, .int .i64 2]) := hide (by rw [HPAR.out, if_neg (by rw [HMAY.out]; simp)]; rfl)
                go_wp2_with fail
                go_ret2
                exact ⟨by rw [HV.out]; rfl, HB3.out⟩
              have v4 : decide (K < 0) = false := decide_eq_false x4
              clear x1 x2 x3 x4
              cases hz : ob ZV
              · clear hz
                have HV : Hid (parV (parseO s.data.toList) = .tuple #[.int .i64 0, .int .i64 2]) := hide (by rw [HPAR.out, if_neg (by rw [HMAY.out]; simp)]; rfl)
                go_wp2_with fail
                go_ret2
                exact ⟨by rw [HV.out]; rfl, HB3.out⟩
              · clear hz
                have HV : Hid (parV (parseO s.data.toList) = .tuple #[.int .i64 0, .int .i64 2]) := hide (by rw [HPAR.out, if_neg (by rw [HMAY.out]; simp)]; rfl)
                go_wp2_with fail
                go_ret2
                exact ⟨by rw [HV.out]; rfl, HB3.out⟩
            · have HMAY := hide hmay
              have hm := mayB_iff.1 hmay
              have hbd := days_bd _ _ _ hm
              have hde : DE = 0 := by rw [hDE, hmay]; rfl
              have hdn : DN = daysZ Y M D := by rw [hDN, hmay]; rfl
              clear hDN hDE hmay
              rw [← hdn] at hbd HPAR
              obtain ⟨m1, m2, m3, m4, m5, m6⟩ := hm
              have u6 : (DE != 0) = false := by rw [hde]; rfl
              have v1 : decide (D < 0) = false := decide_eq_false (by omega)
              have v2 : decide (M < 1) = false := decide_eq_false (by omega)
              have v3 : decide (Y < 0) = false := decide_eq_false (by omega)
              clear hde hdn m1 m2 m3 m4 m5 m6
              by_cases x4 : K < 0
              · have v4 : decide (K < 0) = true := decide_eq_true x4
                have HKN2 := hide (HKN.out x4)
                have HV : Hid (parV (parseO s.data.toList) = .tuple #[.int .i64 0, .int .i64 2]) := hide (by rw [HPAR.out, HMAY.out, HKN2.out]; rfl)
                go_wp2_with fail
                go_ret2
                exact ⟨by rw [HV.out]; rfl, HB3.out⟩
              have v4 : decide (K < 0) = false := decide_eq_false x4
              have HK2 := hide (HKS.out (by omega))
              have k0 : 0 ≤ K := by omega
              clear x4
              cases hz : ob ZV
              · have HZ := hide hz
                clear hz
                have HV : Hid (parV (parseO s.data.toList) = .tuple #[.int .i64 0, .int .i64 2]) := hide (by rw [HPAR.out, HMAY.out, HK2.out, HNZ.out HZ.out]; rfl)
                go_wp2_with fail
                go_ret2
                exact ⟨by rw [HV.out]; rfl, HB3.out⟩
              · have HZ := hide hz
                clear hz
                have HV : Hid (parV (parseO s.data.toList) = .tuple #[.int .i64 (DN * 86400 + K - od ZV), .int .i64 0]) := hide (by rw [HPAR.out, HMAY.out, HK2.out, HSZ.out HZ.out]; rfl)
                go_wp2_with fail
                go_ret2
                exact ⟨by rw [HV.out, Int.mul_comm DN 86400]; rfl, HB3.out⟩
        · have HV : Hid (parV (parseO s.data.toList) = .tuple #[.int .i64 0, .int .i64 2]) := hide (by rw [hres.out, readV_no V h5]; rfl)
          have t5 : ((V.length : Int) != 5) = true := by rw [bne_iff_ne]; omega
          clear h5
          go_wp2_with fail
          go_ret2
          exact ⟨by rw [HV.out]; rfl, HB3.out⟩
end Go.Proofs.YtiojfknphpnlhaaDoor
