/- WALK of the law LinesAgain. No statement is proved here. -/
import Derived.Test.YtcndklegoadjcaaDoorLinesLaw0
namespace Go.Proofs.YtcndklegoadjcaaDoor
open Go.RowKit
set_option linter.unusedVariables false
set_option linter.unusedSimpArgs false
set_option maxRecDepth 100000

set_option maxHeartbeats 4000000 in
theorem law_LinesAgain (s : ByteArray) (w : World) : Calls Tryd.prog 6 #[.string s] w fun e w' => e = .returned (.bool true) ∧ Below w.heap.size w w' := by
  by_cases h_s : ¬ s.size ≤ 5000
  · go_enter Tryd.func6, Tryd.ntmps6
    go_wp2_with fail
    refine (short06_any s _).mono ?_
    rintro e wq ⟨rfl, rfl⟩
    rw [show decide (s.size ≤ 5000) = false from decide_eq_false h_s]
    go_wp2_with fail

    refine (live6_any _).mono ?_
    rintro e wl ⟨rfl, hbl⟩
    go_wp2_with fail
    go_ret
    exact ⟨rfl, (Below.refl w.heap.size w).trans (hbl.mono (Below.refl w.heap.size w).size)⟩

  replace h_s := Decidable.not_not.1 h_s
  have hs20 : s.size ≤ 1048576 := by omega
  obtain ⟨L, hL⟩ : ∃ L, L = (headL s.data.toList).1 := ⟨_, rfl⟩
  obtain ⟨BD, hBD⟩ : ∃ BD, BD = str (headL s.data.toList).2 := ⟨_, rfl⟩
  obtain ⟨hok, hLn, a, ha⟩ := head_ok s.data.toList
  rw [← hL] at hok hLn
  have hsum := head_sum s.data.toList
  rw [← hL, toList_length] at hsum
  have hBDl : BD.data.toList = (headL s.data.toList).2 := by rw [hBD, str_toList]
  have hBs : BD.size = (headL s.data.toList).2.length := by rw [hBD, str_size]
  have hda : s.size = a.length + BD.size := by
    have := congrArg List.length ha
    rw [toList_length, List.length_append] at this
    omega
  obtain ⟨d, hd⟩ : ∃ d, d = a.length := ⟨_, rfl⟩
  have HEX : Hid (s.extract d s.size = BD) := hide (ext_list (by
    rw [extract_end, hBDl, hd]
    exact (congrArg (List.drop a.length) ha).trans List.drop_left))
  have hdd : s.size = d + BD.size := by rw [hd]; exact hda
  have hBD5 : BD.size ≤ 5000 := by omega
  have i1 : BD.size ≤ s.size := by omega
  have t0 : decide ((s.size : Int) < BD.size) = false := decide_eq_false (by omega)
  have t4 : decide (s.size < BD.size) = false := decide_eq_false (by omega)
  have t1 : (BD.toList == BD.toList) = true := beq_self_eq_true _
  have t3 : ((s.extract (s.size - BD.size) s.size).toList == BD.toList) = true := by
    rw [show s.size - BD.size = d by omega, HEX.out]; exact t1
  have HL := hide hL
  have HBD := hide hBD
  have HOK := hide hok
  have HLN : Hid (L.length ≤ 1048576 ∧ L.length ≤ 70368744177664) := hide (by omega)
  have hL20 : L.length ≤ 1048576 := by omega
  have HL5 := hide hLn
  have hz : ∀ f ∈ L, f.1.length ≤ 5000 ∧ f.2.length ≤ 5000 := by
    intro f hf
    rw [hL] at hf
    have := head_size s.data.toList f hf
    rw [toList_length] at this
    omega
  have HZ5 := hide hz
  have HZ : Hid (∀ f ∈ L, f.1.length ≤ 1048576 ∧ f.2.length ≤ 1048576) := hide (fun f hf => by have := hz f hf; omega)
  have HWS : Hid ((writeL L BD.data.toList).length ≤ 1048576) := hide (by
    rw [writeL_sum, toList_length]
    omega)
  have HD := hide hdd
  clear hok ha hsum hBDl hBs hda hd hdd hL hBD hLn hz
  go_enter Tryd.func6, Tryd.ntmps6
  go_wp2_with fail
  refine (short06_any s _).mono ?_
  rintro e wq ⟨rfl, rfl⟩
  rw [show decide (s.size ≤ 5000) = true from decide_eq_true h_s]
  go_wp2_with fail

  refine (head_any s hs20 _).mono ?_
  rintro e w1 ⟨v1, rfl, hf1⟩
  rw [← HL.out] at hf1
  rw [← HBD.out]
  obtain ⟨A, c, rfl⟩ := hf1.slice_len
  have K1 := hide hf1.below
  have F1 := hide hf1.in
  clear hf1
  go_wp2_with fail
  go_loop [5] (fun i => ∃ k : Nat, k ≤ L.length ∧ i = .int .i64 k ∧ Hid (∀ f ∈ L.take k, (13 : UInt8) ∉ f.2)) (fun i => L.length - (intOf i).toNat)
  case atStart => exact ⟨0, Nat.zero_le _, rfl, hide (fun f hf => by simp at hf)⟩
  case round =>
    obtain ⟨k, hk, rfl, HC⟩ := hrel
    by_cases hlt : k < L.length
    · obtain ⟨f, hf⟩ : ∃ f, L[k]? = some f := ⟨_, List.getElem?_eq_getElem hlt⟩
      obtain ⟨aa, ha, hc1, hc2⟩ := F1.out.at k f hf
      subst ha
      obtain ⟨X, hX⟩ : ∃ X, X = str f.2 := ⟨_, rfl⟩
      have hXs : X.size ≤ 5000 := by rw [hX, str_size]; exact (HZ5.out f (List.mem_of_getElem? hf)).2
      have HXL : Hid (X.data.toList = f.2) := hide (by rw [hX, str_toList])
      have HNX : Hid (∀ h : (13 : UInt8) ∉ f.2, ∀ g ∈ L.take (k + 1), (13 : UInt8) ∉ g.2) := hide (fun h g hg => by
        rw [List.take_add_one, hf] at hg
        rcases List.mem_append.1 hg with hg | hg
        · exact HC.out g hg
        · have : g = f := by simpa using hg
          rw [this]; exact h)
      rw [← hX] at hc2
      clear hf hX hc1
      go_wp2_with fail
      go_loop [6] (fun i => ∃ j : Nat, j ≤ X.size ∧ i = .int .i64 j ∧ Hid ((13 : UInt8) ∉ X.data.toList.take j)) (fun i => X.size - (intOf i).toNat)
      case atStart => exact ⟨0, Nat.zero_le _, rfl, hide (by simp)⟩
      case round =>
        obtain ⟨j, hj, rfl, HJ⟩ := hrel
        by_cases hjl : j < X.size
        · by_cases h13 : X[j] = 13
          · have q0 : ((X[j].toNat : Int) == 13) = true := tT 13 h13 (by omega)
            clear h13
            go_wp2_with fail
            refine (live6_any _).mono ?_
            rintro e wl ⟨rfl, hbl⟩
            go_wp2_with fail
            go_ret
            exact ⟨rfl, K1.out.trans (hbl.mono K1.out.size)⟩
          · have q0 : ((X[j].toNat : Int) == 13) = false := tF 13 h13 (by omega)
            have HN : Hid ((13 : UInt8) ∉ X.data.toList.take (j + 1)) := hide (by
              rw [take_snoc X j hjl, List.mem_append, List.mem_singleton]
              exact fun o => o.elim HJ.out (fun e => h13 e.symm))
            clear h13
            go_wp2_with fail
            go_round
            case rel => exact ⟨j + 1, by omega, by go_num, HN⟩
            case measure => simp [intOf]; omega
        · have HN := hide (HNX.out (by
            have := HJ.out
            rwa [List.take_of_length_le (by rw [toList_length]; omega), HXL.out] at this))
          go_wp2_with fail
          go_round
          case rel => exact ⟨k + 1, by omega, by go_num, HN⟩
          case measure => simp [intOf]; omega
    · have HV : Hid (∀ f ∈ L, nameB f.1 = true ∧ valueB f.2 = true) := hide (fun f hf => by
        have h1 := HC.out
        rw [List.take_of_length_le (by omega)] at h1
        obtain ⟨o1, o2, o3⟩ := HOK.out f hf
        exact ⟨o1, value_mk o2 (h1 f hf) o3⟩)
      obtain ⟨S, hS⟩ : ∃ S, S = str (writeL L BD.data.toList) := ⟨_, rfl⟩
      have HWV : Hid (writeV (writeO L BD.data.toList) = .tuple #[.string S, .int .i64 0]) := hide (by rw [writeO_of _ HV.out HL5.out, hS]; rfl)
      have HHH : Hid (headL S.data.toList = (L, BD.data.toList)) := hide (by rw [hS, str_toList]; exact head_write HV.out HL5.out)
      have HSS : Hid (S.size ≤ 1048576) := hide (by rw [hS, str_size]; exact HWS.out)
      have hB20 : BD.size ≤ 1048576 := by omega
      clear hS
      go_wp2_with fail
      refine (write_any _ L BD _ F1.out hB20 HZ.out HLN.out.2).mono ?_
      rintro e w2 ⟨rfl, hb2⟩
      rw [HWV.out]
      have K2 := hide (K1.out.trans (hb2.mono K1.out.size))
      have F12 := hide (F1.out.kept hb2)
      clear hb2
      go_wp2_with fail
      refine (head_any S HSS.out _).mono ?_
      rintro e w3 ⟨v3, rfl, hf3⟩
      rw [HHH.out] at hf3 ⊢
      rw [show str (L, BD.data.toList).2 = BD from str_of BD]
      obtain ⟨A3, c3, rfl⟩ := hf3.slice_len
      have K3 := hide (K2.out.trans (hf3.below.mono K2.out.size))
      have F13 := hide (F12.out.kept hf3.below)
      have F3 := hide hf3.in
      clear hf3
      go_wp2_with fail
      refine (same06_any _ _ L L _ F3.out F13.out hL20).mono ?_
      rintro e w4 ⟨rfl, hb4⟩
      rw [show decide (L = L) = true from decide_eq_true rfl]
      have K4 := hide (K3.out.trans (hb4.mono K3.out.size))
      clear hb4
      go_wp2_with fail
      refine (live6_any _).mono ?_
      rintro e wl ⟨rfl, hbl⟩
      go_wp2_with fail
      go_ret
      exact ⟨rfl, (K4.out).trans (hbl.mono (K4.out).size)⟩

end Go.Proofs.YtcndklegoadjcaaDoor
