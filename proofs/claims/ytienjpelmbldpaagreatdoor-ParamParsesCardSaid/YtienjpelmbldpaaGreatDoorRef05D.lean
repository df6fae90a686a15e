/- WALK of the reference's Decode (layer 5). No statement is proved here. -/
import Derived.Test.YtienjpelmbldpaaGreatDoorRef05O
import Derived.Test.YtienjpelmbldpaaGreatDoorRefValid
namespace Go.Proofs.YtienjpelmbldpaaGreatDoor
open Go.RowKit
set_option linter.unusedVariables false
set_option linter.unusedSimpArgs false
set_option maxRecDepth 100000

theorem allWs_step {p : ByteArray} {j : Nat} (h : j < p.size) : allWs (p.data.toList.take (j + 1)) = (allWs (p.data.toList.take j) && wsB p[j]) := by
  rw [take_snoc p j h]; unfold allWs; rw [List.all_append]; simp
theorem white05_eq {c : UInt8} {b : Bool} (h : b = wsB c) (w : World) : Calls Tryz.prog 50 #[.int .u8 c.toNat] w fun e w' => e = .returned (.bool b) ∧ w = w' :=
  (white05_any c w).mono fun e w' ⟨he, hw⟩ => ⟨by rw [he, h], hw⟩
theorem add_emp {a b c : Nat} (h : a + b ≤ c) : a + 3 * (⟨#[]⟩ : ByteArray).size + b ≤ c := by
  have e : (⟨#[]⟩ : ByteArray).size = 0 := rfl
  rw [e]; omega
theorem app_list (a b : ByteArray) : (a ++ b).data.toList = a.data.toList ++ b.data.toList := by simp
/-- facts of a round that finds no word -/
theorem refD_next {s O Pc : ByteArray} {bh : Bool} {k : Nat} (hk : k < s.size) (hn : oneN (s.data.toList.drop k) = 0) (hd : O.data.toList ++ decW bh Pc.data.toList (s.data.toList.drop k) = decW false [] s.data.toList) (hp : Pc.size ≤ k) (ho : O.size + 3 * Pc.size + 3 * (s.size - k) ≤ 3 * s.size) :
    O.data.toList ++ decW bh (Pc ++ s.extract k (k + 1)).data.toList (s.data.toList.drop (k + 1)) = decW false [] s.data.toList ∧ (Pc ++ s.extract k (k + 1)).size ≤ k + 1 ∧ O.size + 3 * (Pc ++ s.extract k (k + 1)).size + 3 * (s.size - (k + 1)) ≤ 3 * s.size := by
  have hne : s.data.toList.drop k ≠ [] := by rw [drop_cons s k hk]; simp
  rw [decW_go hne hn, List.drop_drop] at hd
  have hx : (s.extract k (k + 1)).data.toList = (s.data.toList.drop k).take 1 := extract_mid s k 1
  have hz : (s.extract k (k + 1)).size = 1 := by rw [ByteArray.size_extract]; omega
  refine ⟨by rw [app_list, hx]; exact hd, by rw [ByteArray.size_append]; omega, by rw [ByteArray.size_append]; omega⟩
/-- facts of a round that finds one -/
theorem refD_word {s O Pc T V : ByteArray} {bh : Bool} {k n : Nat} (hk : k < s.size) (hn : oneN (s.data.toList.drop k) ≠ 0) (hd : O.data.toList ++ decW bh Pc.data.toList (s.data.toList.drop k) = decW false [] s.data.toList)
    (hnn : n = oneN (s.data.toList.drop k)) (hT : T = str (oneT (s.data.toList.drop k))) (hV : V = str (validL Pc.data.toList)) (hp : Pc.size ≤ k) (ho : O.size + 3 * Pc.size + 3 * (s.size - k) ≤ 3 * s.size) :
    n ≠ 0 ∧ k + n ≤ s.size ∧ V.size ≤ 3 * Pc.size ∧ T.size ≤ 3 * n ∧
    ((bh && allWs Pc.data.toList) = false → (O ++ V ++ T).data.toList ++ decW true [] (s.data.toList.drop (k + n)) = decW false [] s.data.toList ∧ (O ++ V ++ T).size + 3 * (s.size - (k + n)) ≤ 3 * s.size) ∧
    ((bh && allWs Pc.data.toList) = true → (O ++ T).data.toList ++ decW true [] (s.data.toList.drop (k + n)) = decW false [] s.data.toList ∧ (O ++ T).size + 3 * (s.size - (k + n)) ≤ 3 * s.size) := by
  obtain ⟨_, hle, h6⟩ := one_pos hn
  rw [List.length_drop, toList_length, ← hnn] at hle
  have htl := oneT_length (s.data.toList.drop k)
  have hvl := validL_length Pc.data.toList
  rw [toList_length] at hvl
  have hTs : T.size ≤ 3 * n := by rw [hT, str_size, hnn]; exact htl
  have hVs : V.size ≤ 3 * Pc.size := by rw [hV, str_size]; exact hvl
  have hTl : T.data.toList = oneT (s.data.toList.drop k) := by rw [hT, str_toList]
  have hVl : V.data.toList = validL Pc.data.toList := by rw [hV, str_toList]
  rw [decW_word hn, List.drop_drop, ← hnn, ← hTl, ← hVl] at hd
  refine ⟨by rw [hnn]; exact hn, by omega, hVs, hTs, fun hb => ⟨?_, ?_⟩, fun hb => ⟨?_, ?_⟩⟩
  · rw [hb] at hd; rw [app_list, app_list, ← hd]; simp
  · rw [ByteArray.size_append, ByteArray.size_append]; omega
  · rw [hb] at hd; rw [app_list, ← hd]; simp
  · rw [ByteArray.size_append]; omega

set_option maxHeartbeats 4000000 in
theorem refWDecode_any (s : ByteArray) (w : World) (hs : s.size ≤ 1048576) :
    Calls Tryz.prog 49 #[.string s] w fun e w' => e = .returned (.string (str (decW false [] s.data.toList))) ∧ Below w.heap.size w w' := by
  go_enter Tryz.func49, Tryz.ntmps49
  go_wp2_with fail
  go_loopw [3, 4, 5, 6] (fun o p b i wr => ∃ (O Pc : ByteArray) (bh : Bool) (k : Nat), o = .string O ∧ p = .string Pc ∧ b = .bool bh ∧ i = .int .i64 k ∧ k ≤ s.size ∧ Hid (Below w.heap.size w wr) ∧ Pc.size ≤ k ∧ O.size + 3 * Pc.size + 3 * (s.size - k) ≤ 3 * s.size ∧ Hid (O.data.toList ++ decW bh Pc.data.toList (s.data.toList.drop k) = decW false [] s.data.toList)) (fun _ _ _ i _ => s.size - (intOf i).toNat)
  case atStart => exact ⟨⟨#[]⟩, ⟨#[]⟩, false, 0, rfl, rfl, rfl, rfl, Nat.zero_le _, hide (Below.refl _ _), Nat.le_refl _, add_emp (a := 0) (b := 3 * s.size) (by omega), hide rfl⟩
  case round =>
    obtain ⟨O, Pc, bh, k, rfl, rfl, rfl, rfl, hk, HB, hp, ho, HD⟩ := hrel
    have hPz : Pc.size ≤ 1048576 := by omega
    have hOz : O.size ≤ 3145728 := by omega
    by_cases hlt : k < s.size
    · have HX := hide (extract_end s k)
      have ZX := hide (show (s.extract k s.size).size ≤ 1048576 by rw [ByteArray.size_extract]; omega)
      have k0 : (0 : Int) ≤ k := by omega
      have k1 : (k : Int) + 1 ≤ s.size := by omega
      by_cases hn : oneN (s.data.toList.drop k) = 0
      · have HV := hide (oneV_none (one_zero hn).1)
        obtain ⟨f1, f2, f3⟩ := refD_next hlt hn HD.out hp ho
        have F1 := hide f1
        have F2 := hide f2
        have F3 := hide f3
        have F4 := hide (show s.size - (k + 1) < s.size - k by omega)
        have F5 := hide (show k + 1 ≤ s.size by omega)
        have x1 : (s.extract k (k + 1)).size ≤ 1 := by rw [ByteArray.size_extract]; omega
        clear f1 f2 f3 hn HD
        go_wp2_with fail
        refine (refOne_any _ _ ZX.out).mono ?_
        rintro e w1 ⟨rfl, hb1⟩
        rw [HX.out, HV.out]
        have HB1 := hide (HB.out.trans (hb1.mono HB.out.size))
        clear hb1
        go_wp2_with fail
        go_roundw
        case rel => exact ⟨O, Pc ++ s.extract k (k + 1), bh, k + 1, rfl, rfl, rfl, by go_num, F5.out, HB1, F2.out, F3.out, F1⟩
        case measure => exact F4.out
      · obtain ⟨n, hnn⟩ : ∃ n, n = oneN (s.data.toList.drop k) := ⟨_, rfl⟩
        obtain ⟨T, hT⟩ : ∃ T, T = str (oneT (s.data.toList.drop k)) := ⟨_, rfl⟩
        obtain ⟨V, hV⟩ : ∃ V, V = str (validL Pc.data.toList) := ⟨_, rfl⟩
        have HV : Hid (oneV (s.data.toList.drop k) = .tuple #[.string T, .int .i64 n]) := hide (by rw [hT, hnn]; rfl)
        obtain ⟨f0, f1, f2, f3, f4, f5⟩ := refD_word hlt hn HD.out hnn hT hV hp ho
        have F4 := hide f4
        have F5 := hide f5
        have F6 := hide (show s.size - (k + n) < s.size - k by omega)
        have F7 := hide f1
        have HVV := hide hV
        have hVz : V.size ≤ 3145728 := by omega
        have hTz : T.size ≤ 3145728 := by omega
        have k2 : (k : Int) + n ≤ s.size := by omega
        have t2 : ((n : Int) == 0) = false := by rw [beq_eq_false_iff_ne]; omega
        clear f4 f5 hn HD hnn hT hV f0 f2 f3 ho
        go_wp2_with fail
        refine (refOne_any _ _ ZX.out).mono ?_
        rintro e w1 ⟨rfl, hb1⟩
        rw [HX.out, HV.out]
        have HB1 := hide (HB.out.trans (hb1.mono HB.out.size))
        clear hb1
        go_wp2_with fail
        go_loop [9, 10] (fun wh i => ∃ (j : Nat) (b : Bool), j ≤ Pc.size ∧ i = .int .i64 j ∧ wh = .bool b ∧ Hid (b = (bh && allWs (Pc.data.toList.take j)))) (fun _ i => Pc.size - (intOf i).toNat)
        case atStart => exact ⟨0, bh, Nat.zero_le _, rfl, rfl, hide (by rw [List.take_zero]; simp [allWs])⟩
        case round =>
          obtain ⟨j, b, hj, rfl, rfl, HJ⟩ := hrel
          by_cases hjl : j < Pc.size
          · have hst := allWs_step hjl
            have F8 := hide (show Pc.size - (j + 1) < Pc.size - j by omega)
            have F9 := hide (show j + 1 ≤ Pc.size by omega)
            cases b with
            | false =>
              have HJ2 : Hid (false = (bh && allWs (Pc.data.toList.take (j + 1)))) := hide (by rw [hst, ← Bool.and_assoc, ← HJ.out]; rfl)
              clear hst
              go_wp2_with fail
              go_round
              case rel => exact ⟨j + 1, false, F9.out, by go_num, rfl, HJ2⟩
              case measure => exact F8.out
            | true =>
              obtain ⟨bb, hbb⟩ : ∃ bb, bb = wsB Pc[j] := ⟨_, rfl⟩
              have HJ2 : Hid (bb = (bh && allWs (Pc.data.toList.take (j + 1)))) := hide (by rw [hst, ← Bool.and_assoc, ← HJ.out, hbb]; rfl)
              have HBB := hide hbb
              clear hst hbb
              go_wp2_with fail
              refine (white05_eq HBB.out _).mono ?_
              rintro e w2 ⟨rfl, rfl⟩
              go_wp2_with fail
              go_round
              case rel => exact ⟨j + 1, bb, F9.out, by go_num, by first | rfl | simp, HJ2⟩
              case measure => exact F8.out
          · have HE : Hid (b = (bh && allWs Pc.data.toList)) := hide (by rw [HJ.out, List.take_of_length_le (by rw [toList_length]; omega)])
            clear HJ hj
            cases b with
            | false =>
              obtain ⟨g1, g2⟩ := F4.out HE.out.symm
              have G1 := hide g1
              have G2 := hide g2
              clear g1 g2
              go_wp2_with fail
              refine (refValid_any _ _ hPz).mono ?_
              rintro e w2 ⟨rfl, hb2⟩
              rw [← HVV.out]
              have HB2 := hide (HB1.out.trans (hb2.mono HB1.out.size))
              clear hb2
              go_wp2_with fail
              go_roundw
              case rel => exact ⟨O ++ V ++ T, ⟨#[]⟩, true, k + n, rfl, rfl, rfl, by go_num, F7.out, HB2, Nat.zero_le _, add_emp G2.out, G1⟩
              case measure => exact F6.out
            | true =>
              obtain ⟨g1, g2⟩ := F5.out HE.out.symm
              have G1 := hide g1
              have G2 := hide g2
              clear g1 g2
              go_wp2_with fail
              go_roundw
              case rel => exact ⟨O ++ T, ⟨#[]⟩, true, k + n, rfl, rfl, rfl, by go_num, F7.out, HB1, Nat.zero_le _, add_emp G2.out, G1⟩
              case measure => exact F6.out
    · obtain ⟨V, hV⟩ : ∃ V, V = str (validL Pc.data.toList) := ⟨_, rfl⟩
      have hvl := validL_length Pc.data.toList
      rw [toList_length] at hvl
      have hVz : V.size ≤ 3145728 := by rw [hV, str_size]; omega
      have HVV := hide hV
      have HR : Hid (O ++ V = str (decW false [] s.data.toList)) := hide (ext_list (by
        rw [str_toList, ← HD.out, drop_nil s k (by omega), decW_nil, app_list, hV, str_toList]))
      clear hV hvl HD
      go_wp2_with fail
      refine (refValid_any _ _ hPz).mono ?_
      rintro e w2 ⟨rfl, hb2⟩
      rw [← HVV.out]
      have HB2 := hide (HB.out.trans (hb2.mono HB.out.size))
      clear hb2
      go_wp2_with fail
      go_ret
      exact ⟨ret_str HR.out, HB2.out⟩
end Go.Proofs.YtienjpelmbldpaaGreatDoor
