/- WALK of word.One. No statement is proved here. -/
import Derived.Test.YtcmmbceacjechaaGreatDoorWordW
namespace Go.Proofs.YtcmmbceacjechaaGreatDoor
open Go.RowKit
set_option linter.unusedVariables false
set_option linter.unusedSimpArgs false
set_option maxRecDepth 100000

/-- what One answers -/
def oneV (l : List UInt8) : Value := .tuple #[.string (str (oneT l)), .int .i64 (oneN l)]
theorem oneV_none {l : List UInt8} (h : oneL l = none) : oneV l = .tuple #[.string ⟨#[]⟩, .int .i64 0] := by
  unfold oneV oneT oneN; rw [h]; rfl
theorem oneV_some {l g : List UInt8} {n : Nat} (h : oneL l = some (g, n)) : oneV l = .tuple #[.string (str g), .int .i64 n] := by
  unfold oneV oneT oneN; rw [h]; rfl
theorem one_parts {l a r1 x r2 t r3 : List UInt8} (ha : a = beforeC 63 (l.drop 2)) (hr1 : r1 = afterC 63 (l.drop 2)) (hx : x = beforeC 63 r1) (hr2 : r2 = afterC 63 r1) (ht : t = beforeC 63 r2) (hr3 : r3 = afterC 63 r2) :
    oneL l = if l.take 2 = [61, 63] ∧ r3.take 1 = [61] ∧ labelK a ≠ 0 then (bytesO x t).map fun b => (decodeL (labelK a) b, l.length - (r3.length - 1)) else none := by
  subst ha hr1 hx hr2 ht hr3; rfl
theorem afterC_le (c : UInt8) (l : List UInt8) : (afterC c l).length ≤ l.length := by
  unfold afterC; have := (List.dropWhile_sublist (l := l) fun x => x != c).length_le
  rw [List.length_drop]; omega

set_option maxHeartbeats 2000000 in
theorem one_any (s : ByteArray) (w : World) (hs : s.size ≤ 1048576) (hT : Tab w) :
    Calls Tryz.prog 167 #[.string s] w fun e w' => e = .returned (oneV s.data.toList) ∧ Below w.heap.size w w' := by
  have HT := hide hT
  have H0 := hide hT.lt
  clear hT
  have hl := toList_length s
  by_cases hp : s.data.toList.take 2 = [61, 63]
  · have hl2 : (s.data.toList.drop 2).length ≤ s.size := by rw [List.length_drop, hl]; omega
    obtain ⟨a, ha⟩ : ∃ a, a = beforeC 63 (s.data.toList.drop 2) := ⟨_, rfl⟩
    obtain ⟨r1, hr1⟩ : ∃ r1, r1 = afterC 63 (s.data.toList.drop 2) := ⟨_, rfl⟩
    obtain ⟨x, hx⟩ : ∃ x, x = beforeC 63 r1 := ⟨_, rfl⟩
    obtain ⟨r2, hr2⟩ : ∃ r2, r2 = afterC 63 r1 := ⟨_, rfl⟩
    obtain ⟨t, ht⟩ : ∃ t, t = beforeC 63 r2 := ⟨_, rfl⟩
    obtain ⟨r3, hr3⟩ : ∃ r3, r3 = afterC 63 r2 := ⟨_, rfl⟩
    have hone := one_parts ha hr1 hx hr2 ht hr3
    have z1 : r1.length ≤ s.size := by rw [hr1]; have := afterC_le 63 (s.data.toList.drop 2); omega
    have z2 : r2.length ≤ s.size := by rw [hr2]; have := afterC_le 63 r1; omega
    have z3 : r3.length ≤ s.size := by rw [hr3]; have := afterC_le 63 r2; omega
    have za : (str a).size ≤ 1048576 := by rw [str_size, ha]; have := beforeC_le 63 (s.data.toList.drop 2); omega
    have zx : (str x).size ≤ 1048576 := by rw [str_size, hx]; have := beforeC_le 63 r1; omega
    have zt : (str t).size ≤ 1048576 := by rw [str_size, ht]; have := beforeC_le 63 r2; omega
    obtain ⟨q1, hc1⟩ : ∃ q, cutV 63 (s.data.toList.drop 2) = .tuple #[.string (str a), .string (str r1), .bool q] := ⟨_, by rw [ha, hr1]; rfl⟩
    obtain ⟨q2, hc2⟩ : ∃ q, cutV 63 r1 = .tuple #[.string (str x), .string (str r2), .bool q] := ⟨_, by rw [hx, hr2]; rfl⟩
    obtain ⟨q3, hc3⟩ : ∃ q, cutV 63 r2 = .tuple #[.string (str t), .string (str r3), .bool q] := ⟨_, by rw [ht, hr3]; rfl⟩
    have C1 := hide hc1
    have C2 := hide hc2
    have C3 := hide hc3
    have Z0 := hide (show (str (s.data.toList.drop 2)).size ≤ 70368744177664 by rw [str_size]; omega)
    have Z1 := hide (show (str r1).size ≤ 70368744177664 by rw [str_size]; omega)
    have Z2 := hide (show (str r2).size ≤ 70368744177664 by rw [str_size]; omega)
    have ZA := hide za
    have ZX := hide zx
    have ZT := hide zt
    have HP := hide hp
    by_cases he : r3.take 1 = [61]
    · obtain ⟨r4, hr4⟩ : ∃ r4, r3 = 61 :: r4 := by
        cases r3 with
        | nil => cases he
        | cons c r => exact ⟨r, by have : c = 61 := by simpa using he
                                   rw [this]⟩
      have hlen : s.data.toList.length - (r3.length - 1) = s.size - r4.length := by rw [hl, hr4]; simp
      have z4 : (str r4).size ≤ s.size := by rw [str_size]; rw [hr4, List.length_cons] at z3; omega
      have hz4 : (str r4).size = r4.length := str_size r4
      have HE := hide he
      have HD4 := hide (show str (r3.drop 1) = str r4 by rw [hr4]; rfl)
      rw [hlen] at hone
      clear hl2 ha hr1 hx hr2 ht hr3 z1 z2 z3 za zx zt hc1 hc2 hc3 hr4 hlen
      by_cases hk : labelK a = 0
      · obtain ⟨y, hy⟩ := labelV_no hk
        have HY := hide hy
        have HV := hide (oneV_none (l := s.data.toList) (by rw [hone, if_neg (fun h => h.2.2 hk)]))
        obtain ⟨bb, q, hbb⟩ : ∃ bb q, bytesV (bytesO x t) = .tuple #[.string bb, .bool q] := by
          cases bytesO x t with
          | none => exact ⟨_, _, rfl⟩
          | some b => exact ⟨_, _, rfl⟩
        have HBB := hide hbb
        clear hk hy hone hbb hp he z4 hl hz4
        go_enter Tryz.func167, Tryz.ntmps167
        go_wp2_with fail
        refine (cutPrefix_yes s [61, 63] _ HP.out).mono ?_
        rintro e w1 ⟨rfl, rfl⟩
        go_wp2_with fail
        refine (strCut_any _ 63 _ Z0.out).mono ?_
        rintro e w2 ⟨rfl, hb2⟩
        rw [str_toList, C1.out]
        go_wp2_with fail
        refine (strCut_any _ 63 _ Z1.out).mono ?_
        rintro e w3 ⟨rfl, hb3⟩
        rw [str_toList, C2.out]
        go_wp2_with fail
        refine (strCut_any _ 63 _ Z2.out).mono ?_
        rintro e w4 ⟨rfl, hb4⟩
        rw [str_toList, C3.out]
        go_wp2_with fail
        refine (cutPrefix_yes (str r3) [61] _ HE.out).mono ?_
        rintro e w5 ⟨rfl, rfl⟩
        go_wp2_with fail
        refine (labelOf_any _ _ ZA.out).mono ?_
        rintro e w6 ⟨rfl, hb6⟩
        rw [str_toList, HY.out]
        go_wp2_with fail
        refine (bytesOf_any _ _ _ ZT.out).mono ?_
        rintro e w7 ⟨rfl, hb7⟩
        rw [str_toList, str_toList, HBB.out]
        go_wp2_with fail
        go_ret2
        have k3 := hb2.trans (hb3.mono hb2.size)
        have k4 := k3.trans (hb4.mono k3.size)
        have k6 := k4.trans (hb6.mono k4.size)
        exact ⟨by rw [HV.out]; rfl, k6.trans (hb7.mono k6.size)⟩
      · obtain ⟨hy, hkk⟩ := labelV_yes hk
        have HY := hide hy
        have HKK := hide hkk
        have ZL := hide (show (str (beforeC 42 a)).size ≤ 70368744177664 by rw [str_size]; have := beforeC_le 42 a; have := str_size a; have := ZA.out; omega)
        rw [if_pos ⟨hp, he, hk⟩] at hone
        cases hb : bytesO x t with
        | none =>
          have HV := hide (oneV_none (l := s.data.toList) (by rw [hone, hb]; rfl))
          have HBB : Hid (bytesV (bytesO x t) = .tuple #[.string ⟨#[]⟩, .bool false]) := hide (by rw [hb]; rfl)
          clear hk hy hkk hone hb hp he z4 hl hz4
          go_enter Tryz.func167, Tryz.ntmps167
          go_wp2_with fail
          refine (cutPrefix_yes s [61, 63] _ HP.out).mono ?_
          rintro e w1 ⟨rfl, rfl⟩
          go_wp2_with fail
          refine (strCut_any _ 63 _ Z0.out).mono ?_
          rintro e w2 ⟨rfl, hb2⟩
          rw [str_toList, C1.out]
          go_wp2_with fail
          refine (strCut_any _ 63 _ Z1.out).mono ?_
          rintro e w3 ⟨rfl, hb3⟩
          rw [str_toList, C2.out]
          go_wp2_with fail
          refine (strCut_any _ 63 _ Z2.out).mono ?_
          rintro e w4 ⟨rfl, hb4⟩
          rw [str_toList, C3.out]
          go_wp2_with fail
          refine (cutPrefix_yes (str r3) [61] _ HE.out).mono ?_
          rintro e w5 ⟨rfl, rfl⟩
          go_wp2_with fail
          refine (labelOf_any _ _ ZA.out).mono ?_
          rintro e w6 ⟨rfl, hb6⟩
          rw [str_toList, HY.out]
          go_wp2_with fail
          refine (bytesOf_any _ _ _ ZT.out).mono ?_
          rintro e w7 ⟨rfl, hb7⟩
          rw [str_toList, str_toList, HBB.out]
          go_wp2_with fail
          go_ret2
          have k3 := hb2.trans (hb3.mono hb2.size)
          have k4 := k3.trans (hb4.mono k3.size)
          have k6 := k4.trans (hb6.mono k4.size)
          exact ⟨by rw [HV.out]; rfl, k6.trans (hb7.mono k6.size)⟩
        | some b =>
          have zb := bytesO_length hb
          have ZB := hide (show (str b).size ≤ 1048576 by rw [str_size]; have := str_size t; have := ZT.out; omega)
          have HV := hide (oneV_some (l := s.data.toList) (by rw [hone, hb]; rfl))
          have HBB : Hid (bytesV (bytesO x t) = .tuple #[.string (str b), .bool true]) := hide (by rw [hb]; rfl)
          obtain ⟨q, hq⟩ : ∃ q, decV (labelK a) b = .tuple #[.string (str (decodeL (labelK a) b)), .bool q] := ⟨_, rfl⟩
          have HQ := hide hq
          obtain ⟨R4, hR4⟩ : ∃ R4, R4 = str r4 := ⟨_, rfl⟩
          rw [← hR4] at hz4 z4 HD4
          have HZ4 := hide hz4
          clear hk hy hkk hone hb hp he hl zb hq hR4 hz4
          go_enter Tryz.func167, Tryz.ntmps167
          go_wp2_with fail
          refine (cutPrefix_yes s [61, 63] _ HP.out).mono ?_
          rintro e w1 ⟨rfl, rfl⟩
          go_wp2_with fail
          refine (strCut_any _ 63 _ Z0.out).mono ?_
          rintro e w2 ⟨rfl, hb2⟩
          rw [str_toList, C1.out]
          go_wp2_with fail
          refine (strCut_any _ 63 _ Z1.out).mono ?_
          rintro e w3 ⟨rfl, hb3⟩
          rw [str_toList, C2.out]
          go_wp2_with fail
          refine (strCut_any _ 63 _ Z2.out).mono ?_
          rintro e w4 ⟨rfl, hb4⟩
          rw [str_toList, C3.out]
          go_wp2_with fail
          refine (cutPrefix_yes (str r3) [61] _ HE.out).mono ?_
          rintro e w5 ⟨rfl, rfl⟩
          rw [show str (List.drop ([61] : List UInt8).length (str r3).data.toList) = R4 from HD4.out]
          go_wp2_with fail
          refine (labelOf_any _ _ ZA.out).mono ?_
          rintro e w6 ⟨rfl, hb6⟩
          rw [str_toList, HY.out]
          go_wp2_with fail
          refine (bytesOf_any _ _ _ ZT.out).mono ?_
          rintro e w7 ⟨rfl, hb7⟩
          rw [str_toList, str_toList, HBB.out]
          have k3 := hb2.trans (hb3.mono hb2.size)
          have k4 := k3.trans (hb4.mono k3.size)
          have k6 := k4.trans (hb6.mono k4.size)
          have k7 := k6.trans (hb7.mono k6.size)
          have HK7 := hide k7
          clear k3 k4 k6 k7 hb2 hb3 hb4 hb6 hb7
          go_wp2_with fail
          refine (charsDecode_any _ _ _ ZL.out ZB.out (HT.out.below HK7.out H0.out)).mono ?_
          rintro e w8 ⟨rfl, hb8⟩
          rw [str_toList, str_toList, HKK.out, HQ.out]
          go_wp2_with fail
          go_ret2
          refine ⟨?_, HK7.out.trans (hb8.mono HK7.out.size)⟩
          rw [HV.out]
          refine congrArg (fun z => Ending.returned (.tuple #[.string _, .int .i64 z])) ?_
          have := HZ4.out
          omega
    · have HV := hide (oneV_none (l := s.data.toList) (by rw [hone, if_neg (fun h => he h.2.1)]))
      have HE := hide he
      clear hl2 ha hr1 hx hr2 ht hr3 z1 z2 z3 za zx zt hc1 hc2 hc3 hone hp he hl
      go_enter Tryz.func167, Tryz.ntmps167
      go_wp2_with fail
      refine (cutPrefix_yes s [61, 63] _ HP.out).mono ?_
      rintro e w1 ⟨rfl, rfl⟩
      go_wp2_with fail
      refine (strCut_any _ 63 _ Z0.out).mono ?_
      rintro e w2 ⟨rfl, hb2⟩
      rw [str_toList, C1.out]
      go_wp2_with fail
      refine (strCut_any _ 63 _ Z1.out).mono ?_
      rintro e w3 ⟨rfl, hb3⟩
      rw [str_toList, C2.out]
      go_wp2_with fail
      refine (strCut_any _ 63 _ Z2.out).mono ?_
      rintro e w4 ⟨rfl, hb4⟩
      rw [str_toList, C3.out]
      go_wp2_with fail
      refine (cutPrefix_no (str r3) [61] _ HE.out).mono ?_
      rintro e w5 ⟨rfl, rfl⟩
      go_wp2_with fail
      go_ret2
      have k3 := hb2.trans (hb3.mono hb2.size)
      exact ⟨by rw [HV.out]; rfl, k3.trans (hb4.mono k3.size)⟩
  · have HV := hide (oneV_none (l := s.data.toList) (by unfold oneL; rw [if_neg (fun h => hp h.1)]))
    have HP := hide hp
    clear hp hl
    go_enter Tryz.func167, Tryz.ntmps167
    go_wp2_with fail
    refine (cutPrefix_no s [61, 63] _ HP.out).mono ?_
    rintro e w1 ⟨rfl, rfl⟩
    go_wp2_with fail
    go_ret2
    exact ⟨by rw [HV.out]; rfl, Below.refl _ _⟩
end Go.Proofs.YtcmmbceacjechaaGreatDoor
