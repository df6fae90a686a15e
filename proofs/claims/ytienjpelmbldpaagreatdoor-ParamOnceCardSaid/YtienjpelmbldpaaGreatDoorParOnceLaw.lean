/- WALK of the law ParamOnce. No statement is proved here. -/
import Derived.Test.YtienjpelmbldpaaGreatDoorRef07S
import Derived.Test.YtienjpelmbldpaaGreatDoorParS
import Derived.Deep.RegionHeld3
namespace Go.Proofs.YtienjpelmbldpaaGreatDoor
open Go.RowKit
set_option linter.unusedVariables false
set_option linter.unusedSimpArgs false
set_option maxRecDepth 100000
set_option maxHeartbeats 8000000 in
theorem law_ParamOnce (s : ByteArray) (hss : s.size ≤ maxLen) (w : World) (hE : EnvP w) :
    Calls Tryz.prog 6 #[.string s] w fun e w' => e = .returned (.bool true) ∧ Below w.heap.size w w' := by
  have HE := hide hE
  clear hE hss
  rcases Nat.lt_or_ge 1500 s.size with hq | hs
  · have HD : Hid (decide (s.size ≤ 1500) = false) := hide (decide_eq_false (by omega))
    clear hq
    go_enter Tryz.func6, Tryz.ntmps6
    go_wp2_with fail
    refine (short07_any s _).mono ?_
    rintro e wq ⟨rfl, rfl⟩
    rw [HD.out]
    go_wp2_with fail
    refine (live07_any _ HE.out).mono ?_
    rintro e wl ⟨rfl, hbl⟩
    go_wp2_with fail
    go_ret
    exact ⟨rfl, hbl⟩
  have HD : Hid (decide (s.size ≤ 1500) = true) := hide (decide_eq_true hs)
  have HP : Hid (((parsP s.data.toList).2.map (·.1)).Nodup ∧ ∀ p ∈ (parsP s.data.toList).2, p.1 ≠ [] ∧ (∀ c ∈ p.1, GoodC c) ∧ validL p.2 = p.2) := hide (pars_once _)
  have HZ : Hid ((∀ p ∈ (parsP s.data.toList).2, p.1.length ≤ 1000000 ∧ p.2.length ≤ 1000000) ∧ (parsP s.data.toList).2.length ≤ 999999) := hide (by
    have h1 := pars_sizes s.data.toList
    rw [toList_length] at h1
    refine ⟨fun p hp => ?_, by omega⟩
    have := h1.1 p hp
    omega)
  have CP := hide (parse07 s w (by omega) HE.out)
  obtain ⟨T, hT⟩ : ∃ T, T = str (parsP s.data.toList).1 := ⟨_, rfl⟩
  obtain ⟨L, hL⟩ : ∃ L, (parsP s.data.toList).2 = L := ⟨_, rfl⟩
  rw [← hT] at CP
  rw [hL] at HP HZ CP
  have hLn : L.length ≤ 999999 := HZ.out.2
  clear hL hT
  go_enter Tryz.func6, Tryz.ntmps6
  go_wp2_with fail
  refine (short07_any s _).mono ?_
  rintro e wq ⟨rfl, rfl⟩
  rw [HD.out]
  go_wp2_with fail
  refine CP.out.mono ?_
  rintro e w1 ⟨v1, rfl, hf1⟩
  obtain ⟨A1, c1, rfl⟩ := hf1.slice_len
  have K1 := hide hf1.below
  have F1 := hide hf1.in
  clear hf1 CP
  go_wp2_with fail
  go_loopw [5] (fun i wr => ∃ k : Nat, k ≤ L.length ∧ i = .int .i64 k ∧ Hid (Below w.heap.size w wr) ∧ Hid (ParsIn wr (.slice A1 L.length c1) L)) (fun i _ => L.length - (intOf i).toNat)
  case atStart => exact ⟨0, Nat.zero_le _, rfl, K1, F1⟩
  case round =>
    obtain ⟨k, hk, rfl, HB, HF⟩ := hrel
    by_cases hlt : k < L.length
    · obtain ⟨f, hf⟩ : ∃ f, L[k]? = some f := ⟨_, List.getElem?_eq_getElem hlt⟩
      obtain ⟨a, ha, hc1, hc2⟩ := HF.out.at k f hf
      subst ha
      have hk6 : k < 1000000 := by omega
      obtain ⟨g1, g2, g3⟩ := HP.out.2 f (List.mem_of_getElem? hf)
      obtain ⟨z1, z2⟩ := HZ.out.1 f (List.mem_of_getElem? hf)
      have HFN := fun w2 (hb : Below wr.heap.size wr w2) => hide ((HF.out.kept hb).at k f hf)
      obtain ⟨X, hX⟩ : ∃ X, X = str f.1 := ⟨_, rfl⟩
      obtain ⟨Y, hY⟩ : ∃ X, X = str f.2 := ⟨_, rfl⟩
      have CV := fun w2 => hide (valid_any Y w2 (by rw [hY, str_size]; omega))
      have eV : str (validL Y.data.toList) = Y := by rw [hY, str_toList, g3]
      rw [eV] at CV
      rw [← hX] at hc1 HFN
      rw [← hY] at hc2 HFN
      have hXl : X.data.toList = f.1 := by rw [hX, str_toList]
      have hXs : X.size ≤ 1000000 := by rw [hX, str_size]; exact z1
      have s2 : X.toList.isEmpty = false := by
        rw [hX, str_list]
        cases hx1 : f.1 with
        | nil => exact absurd hx1 g1
        | cons _ _ => rfl
      have HGC : Hid (∀ j (h : j < X.size), GoodC (X[j]'h)) := hide (fun j h => g2 _ (by
        rw [← hXl]
        have : X[j]'h = X.data.toList[j]'(by rw [toList_length]; exact h) := by rfl
        rw [this]; exact List.getElem_mem _))
      have HND : Hid (∀ j (q : ParL), j < k → L[j]? = some q → ((str q.1).toList == X.toList) = false) := hide (fun j q hj hq => by
        rw [hX, str_list, str_list, beq_eq_false_iff_ne]
        intro e
        have hnd := HP.out.1
        have h1 : (L.map (·.1))[j]? = some q.1 := by rw [List.getElem?_map, hq]; rfl
        have h2 : (L.map (·.1))[k]? = some f.1 := by rw [List.getElem?_map, hf]; rfl
        obtain ⟨l1, e1⟩ := List.getElem?_eq_some_iff.1 h1
        obtain ⟨l2, e2⟩ := List.getElem?_eq_some_iff.1 h2
        exact List.pairwise_iff_getElem.1 hnd j k l1 l2 hj (by rw [e1, e2, e]))
      have HFF := hide hf
      have HXX := hide hX
      have HYY := hide hY
      have HLT := hide hlt
      clear g1 g2 g3 z1 z2 hX hY hXl eV hf
      have lc1 := World.block_lt_of_cell? _ _ hc1
      have lc2 := World.block_lt_of_cell? _ _ hc2
      have HKP : Hid (∀ w2 w3, Below w2.heap.size w2 w3 → Below wr.heap.size wr w2 → Below wr.heap.size wr w3 ∧ w3.cell? (a.add (k * 2)) = some (.string X) ∧ w3.cell? { block := (a.add (k * 2)).block, off := (a.add (k * 2)).off + 1 } = some (.string Y)) := hide fun w2 w3 h3 h2 => by
        have hb := h2.trans (h3.mono h2.size)
        exact ⟨hb, (hb.cell lc1).trans hc1, (hb.cell lc2).trans hc2⟩
      have hcb := Below.refl wr.heap.size wr
      have q1 : (Y.toList == Y.toList) = true := beq_self_eq_true _
      have q2 : (Y.toList != Y.toList) = false := by rw [bne, q1]; rfl
      clear lc1 lc2 HFN
      go_wp2_with fail
      go_region_held3 (fun w' => Below wr.heap.size wr w' ∧ w'.cell? (a.add (k * 2)) = some (.string X) ∧ w'.cell? { block := (a.add (k * 2)).block, off := (a.add (k * 2)).off + 1 } = some (.string Y))
        (refine ⟨?_, ?_, ?_⟩ <;> first | (with_reducible assumption) | (with_reducible exact Below.drew (by assumption)) | (with_reducible exact (HKP.out _ _ (by with_reducible assumption) (by first | with_reducible assumption | with_reducible exact And.left (by assumption))).1) | (with_reducible exact (HKP.out _ _ (by with_reducible assumption) (by first | with_reducible assumption | with_reducible exact And.left (by assumption))).2.1) | (with_reducible exact (HKP.out _ _ (by with_reducible assumption) (by first | with_reducible assumption | with_reducible exact And.left (by assumption))).2.2) | go_keep)
        (first
        | (go_at_call 18; go_must (refine (CV _).out.mono ?_; rintro e w3 ⟨rfl, hb3⟩)))
      have hbc : Below wr.heap.size wr w3 := by first | with_reducible assumption | with_reducible exact And.left (by assumption)
      have HB3 := hide hbc
      clear hbc
      have K3 := hide (HB.out.trans (HB3.out.mono HB.out.size))
      have F3 := hide (HF.out.kept HB3.out)
      clear HKP HB HF HB3 CV hcb q1 q2 hc1 hc2
      obtain ⟨a', ha', d1, d2⟩ := F3.out.at k f HFF.out
      obtain rfl := Option.some.inj ha'
      clear ha'
      rw [← HXX.out] at d1
      rw [← HYY.out] at d2
      go_wp2_with fail
      go_loopw [6] (fun iv wr => ∃ j : Nat, j ≤ X.size ∧ iv = .int .i64 j ∧ Hid (wr = w3)) (fun iv _ => X.size - (intOf iv).toNat)
      case atStart => exact ⟨0, Nat.zero_le _, rfl, hide rfl⟩
      case round =>
        obtain ⟨j, hj, rfl, HW⟩ := hrel
        obtain rfl := HW.out
        by_cases hjl : j < X.size
        · obtain ⟨n42, nAZ⟩ := HGC.out j hjl
          have t0 : ((X[j].toNat : Int) == 42) = false := tF 42 n42 (by omega)
          have hj6 : j < 1000000 := by omega
          by_cases h65 : 65 ≤ X[j].toNat
          · have t1 : decide ((65 : Int) ≤ X[j].toNat) = true := decide_eq_true (by omega)
            have t2 : decide ((X[j].toNat : Int) ≤ 90) = false := decide_eq_false (by omega)
            clear n42 nAZ h65
            go_wp2_with fail
            go_roundw
            case rel => exact ⟨j + 1, by omega, by go_num, by first | exact trivial | exact hide rfl⟩
            case measure => simp [intOf]; omega
          · have t1 : decide ((65 : Int) ≤ X[j].toNat) = false := decide_eq_false (by omega)
            clear n42 nAZ h65
            go_wp2_with fail
            go_roundw
            case rel => exact ⟨j + 1, by omega, by go_num, by first | exact trivial | exact hide rfl⟩
            case measure => simp [intOf]; omega
        · go_wp2_with fail
          go_loopw [7] (fun iv wr => ∃ i : Nat, i ≤ k ∧ iv = .int .i64 i ∧ Hid (Below w.heap.size w wr) ∧ Hid (ParsIn wr (.slice (some a) L.length c1) L)) (fun iv _ => k - (intOf iv).toNat)
          case atStart => exact ⟨0, Nat.zero_le _, rfl, K3, F3⟩
          case round =>
            obtain ⟨i, hi, rfl, HB4, HF4⟩ := hrel
            clear d1 d2
            by_cases hil : i < k
            · obtain ⟨q, hq⟩ : ∃ q, L[i]? = some q := ⟨_, List.getElem?_eq_getElem (by omega)⟩
              obtain ⟨a1, ha1, e1, e2⟩ := HF4.out.at i q hq
              obtain rfl := Option.some.inj ha1
              obtain ⟨a2, ha2, e3, e4⟩ := HF4.out.at k f HFF.out
              obtain rfl := Option.some.inj ha2
              rw [← HXX.out] at e3
              rw [← HYY.out] at e4
              have t0 := HND.out i q hil hq
              obtain ⟨Z, hZ⟩ : ∃ Z, Z = str q.1 := ⟨_, rfl⟩
              obtain ⟨Z2, hZ2⟩ : ∃ Z, Z = str q.2 := ⟨_, rfl⟩
              rw [← hZ] at e1 t0
              rw [← hZ2] at e2
              have hiL : i < L.length := by omega
              have hi6 : i < 1000000 := by omega
              clear hq hZ hZ2 ha1 ha2
              go_wp2_with fail
              go_quiet (fail)
              go_wp2_with fail
              go_roundw
              case rel => exact ⟨i + 1, by omega, by go_num, hide (HB4.out.trans ((below_drewNQ wr nq).mono HB4.out.size)), hide (HF4.out.kept (below_drewNQ wr nq))⟩
              case measure => simp [intOf]; omega
            · go_wp2_with fail
              go_roundw
              case rel => exact ⟨k + 1, HLT.out, by go_num, HB4, HF4⟩
              case measure => simp [intOf]; have := HLT.out; omega
    · go_wp2_with fail
      refine (live07_any _ (HE.out.kept HB.out)).mono ?_
      rintro e wl ⟨rfl, hbl⟩
      go_wp2_with fail
      go_ret
      exact ⟨rfl, HB.out.trans (hbl.mono HB.out.size)⟩
end Go.Proofs.YtienjpelmbldpaaGreatDoor
