/- WALK of the law AddrGood. No statement is proved here. -/
import Derived.Test.YtnckbdkofbhilaaGreatDoorAddrL0
import Derived.Deep.RegionWith
namespace Go.Proofs.YtnckbdkofbhilaaGreatDoor
open Go.RowKit
set_option linter.unusedVariables false
set_option linter.unusedSimpArgs false
set_option maxRecDepth 100000
theorem nmOut_size (s : ByteArray) : (nmOut s).1.length ≤ s.size ∧ (nmOut s).2.length ≤ s.size := by
  obtain ⟨z1, z2⟩ := angOut_size s
  have z3 : (rmOut s).1.length ≤ s.size := Nat.le_trans (unpairL_length _) (rmAt_bd s s.size).2.2
  have z4 : (rmOut s).2.length ≤ s.size := (rmAt_bd s s.size).2.1
  have z5 := tr4_length (angOut s).1.data.toList
  have z6 := (readQ_le (tr4 (angOut s).1.data.toList)).1
  have z7 := tr4_length (rmOut s).1
  have z8 := toList_length (angOut s).1
  have z9 := toList_length (angOut s).2.1
  unfold nmOut
  split
  · simp only []
    refine ⟨?_, by omega⟩
    split <;> omega
  · exact ⟨by simp only []; omega, z4⟩
theorem parse_sizes (s : ByteArray) : ∀ b ∈ parseL s, b.1.length ≤ 3 * s.size ∧ b.2.length ≤ s.size := by
  intro b hb
  unfold parseL boxesOf at hb
  obtain ⟨t, ht, rfl⟩ := List.mem_map.1 (List.mem_filter.1 hb).1
  have h1 := boxL_sizes s t ht
  obtain ⟨h2, h3⟩ := nmOut_size t
  have h4 := decW_length false [] (nmOut t).1
  have h5 := tr4_length (nmOut t).2
  unfold readBoxL
  simp only [List.length_nil] at h4
  refine ⟨by simp only []; omega, ?_⟩
  simp only []
  split
  · omega
  · exact Nat.zero_le _
theorem parse_count (s : ByteArray) : (parseL s).length ≤ s.size + 1 := by
  unfold parseL boxesOf
  have h1 := List.length_filter_le tells ((boxL s).map readBoxL)
  have h2 := (boxL_length s).1
  rw [List.length_map] at h1
  omega
set_option maxHeartbeats 4000000 in
theorem law_AddrGood (s : ByteArray) (hss : s.size ≤ maxLen) (w : World) (hE : Env w) :
    Calls Tryz.prog 6 #[.string s] w fun e w' => e = .returned (.bool true) ∧ Below w.heap.size w w' := by
  have HE := hide hE
  clear hE
  by_cases hs : ¬ s.size ≤ 1500
  · go_enter Tryz.func6, Tryz.ntmps6
    go_wp2_with fail
    refine (short08_any s _).mono ?_
    rintro e wq ⟨rfl, rfl⟩
    rw [show decide (s.size ≤ 1500) = false from decide_eq_false hs]
    go_wp2_with fail
    refine (live8_any _ HE.out).mono ?_
    rintro e wl ⟨rfl, hbl⟩
    go_wp2_with fail
    go_ret
    exact ⟨rfl, hbl⟩
  replace hs := Decidable.not_not.1 hs
  have HP : Hid (∀ b ∈ parseL s, (goodL b.2 = true ∨ (b.2 = [] ∧ b.1 ≠ [])) ∧ validL b.1 = b.1) := hide (by rw [parseL_F]; exact parse_each _)
  have HZ : Hid (∀ b ∈ parseL s, b.1.length ≤ 1048576 ∧ b.2.length ≤ 1048576) := hide (fun b hb => by have := parse_sizes s b hb; omega)
  have CP := hide (addrParse_any s w (Nat.le_trans hs (by decide)) HE.out.1)
  have hLn : (parseL s).length ≤ 1048576 := by have := parse_count s; omega
  obtain ⟨L, hL⟩ : ∃ L, parseL s = L := ⟨_, rfl⟩
  rw [hL] at HP HZ CP hLn
  clear hL
  go_enter Tryz.func6, Tryz.ntmps6
  go_wp2_with fail
  refine (short08_any s _).mono ?_
  rintro e wq ⟨rfl, rfl⟩
  rw [show decide (s.size ≤ 1500) = true from decide_eq_true hs]
  go_wp2_with fail
  refine CP.out.mono ?_
  rintro e w1 ⟨v1, rfl, hf1⟩
  obtain ⟨A1, c1, rfl⟩ := hf1.slice_len
  have K1 := hide hf1.below
  have F1 := hide hf1.in
  clear hf1 CP
  go_wp2_with fail
  go_loopw [4] (fun i wr => ∃ k : Nat, k ≤ L.length ∧ i = .int .i64 k ∧ Hid (Below w.heap.size w wr) ∧ Hid (BoxesIn wr (.slice A1 L.length c1) L)) (fun i _ => L.length - (intOf i).toNat)
  case atStart => exact ⟨0, Nat.zero_le _, rfl, K1, F1⟩
  case round =>
    obtain ⟨k, hk, rfl, HB, HF⟩ := hrel
    by_cases hlt : k < L.length
    · obtain ⟨f, hf⟩ : ∃ f, L[k]? = some f := ⟨_, List.getElem?_eq_getElem hlt⟩
      obtain ⟨a, ha, hc1, hc2⟩ := HF.out.at k f hf
      subst ha
      obtain ⟨hg, hv⟩ := HP.out f (List.mem_of_getElem? hf)
      obtain ⟨z1, z2⟩ := HZ.out f (List.mem_of_getElem? hf)
      have HFN := fun w2 (hb : Below wr.heap.size wr w2) => hide ((HF.out.kept hb).at k f hf)
      obtain ⟨X, hX⟩ : ∃ X, X = str f.1 := ⟨_, rfl⟩
      obtain ⟨Y, hY⟩ : ∃ X, X = str f.2 := ⟨_, rfl⟩
      have CG := hide (good_any Y wr (by rw [hY, str_size]; exact z2))
      have CV := fun w2 => hide (valid_any X w2 (by rw [hX, str_size]; exact Nat.le_trans z1 (by decide)))
      have eV : str (validL X.data.toList) = X := by rw [hX, str_toList, hv]
      rw [eV] at CV
      rw [← hX] at hc1 HFN
      rw [← hY] at hc2 HFN
      have eg : goodL Y.data.toList = goodL f.2 := by rw [hY, str_toList]
      rw [eg] at CG
      by_cases hg1 : goodL f.2 = true
      · rw [hg1] at CG
        clear hg hv z1 z2 hX hY eg hf eV hg1
        go_wp2_with (go_at_call 20; refine CG.out.mono ?_; rintro e w2 ⟨rfl, hb2⟩; obtain ⟨a', ha', d1, d2⟩ := (HFN w2 hb2).out; obtain rfl := Option.some.inj ha'; have HB2 := hide hb2; clear hb2 ha')
        go_region_with (
          (refine (CV _).out.mono ?_; rintro e w3 ⟨rfl, hb3⟩; obtain ⟨a', ha', d3, d4⟩ := (HFN w3 (HB2.out.drew.trans (hb3.mono HB2.out.size))).out; obtain rfl := Option.some.inj ha'; have HB3 := hide (HB2.out.drew.trans (hb3.mono HB2.out.size)); clear hb3 ha'))
        all_goals
          try go_wp2_with fail
          go_roundw
          case rel => exact ⟨k + 1, by omega, by go_num, hide (HB.out.trans (HB3.out.mono HB.out.size)), hide (HF.out.kept HB3.out)⟩
          case measure => simp [intOf]; omega
      · rcases hg with hg | ⟨g2, g1⟩
        · exact absurd hg hg1
        have hg0 : goodL f.2 = false := by simpa using hg1
        rw [hg0] at CG
        have s1c : Y.toList.isEmpty = true := by rw [hY, g2, str_list]; rfl
        have s2 : X.toList.isEmpty = false := by
          rw [hX, str_list]
          cases hx1 : f.1 with
          | nil => exact absurd hx1 g1
          | cons _ _ => rfl
        clear hv z1 z2 hX hY eg hf eV hg1 hg0 g1 g2
        go_wp2_with (go_at_call 20; refine CG.out.mono ?_; rintro e w2 ⟨rfl, hb2⟩; obtain ⟨a', ha', d1, d2⟩ := (HFN w2 hb2).out; obtain rfl := Option.some.inj ha'; have HB2 := hide hb2; clear hb2 ha')
        go_region_with (
          (refine (CV _).out.mono ?_; rintro e w3 ⟨rfl, hb3⟩; obtain ⟨a', ha', d3, d4⟩ := (HFN w3 (HB2.out.drew.trans (hb3.mono HB2.out.size))).out; obtain rfl := Option.some.inj ha'; have HB3 := hide (HB2.out.drew.trans (hb3.mono HB2.out.size)); clear hb3 ha'))
        all_goals
          try go_wp2_with fail
          go_roundw
          case rel => exact ⟨k + 1, by omega, by go_num, hide (HB.out.trans (HB3.out.mono HB.out.size)), hide (HF.out.kept HB3.out)⟩
          case measure => simp [intOf]; omega
    · go_wp2_with fail
      refine (live8_any _ (HE.out.kept HB.out)).mono ?_
      rintro e wl ⟨rfl, hbl⟩
      go_wp2_with fail
      go_ret
      exact ⟨rfl, HB.out.trans (hbl.mono HB.out.size)⟩
end Go.Proofs.YtnckbdkofbhilaaGreatDoor
