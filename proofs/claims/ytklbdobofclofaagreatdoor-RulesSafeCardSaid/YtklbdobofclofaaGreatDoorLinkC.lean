/- WALKS of link.cut, link.Scheme, link.ifHost, link.Kind. No statement is proved here. Own work of the verifier. -/
import Derived.Test.YtklbdobofclofaaGreatDoorLinkW
import Derived.Test.YtklbdobofclofaaGreatDoorBaseN
namespace Go.Proofs.YtklbdobofclofaaGreatDoor
open Go.RowKit
set_option linter.unusedVariables false
set_option linter.unusedSimpArgs false
set_option maxRecDepth 100000

theorem sch_mark (c : UInt8) : markB [43, 45, 46] c = schB c :=
  u8_all (p := fun c => markB [43, 45, 46] c = schB c) (by decide +kernel) c
theorem sch_letter (c : UInt8) (h : letterB c = true) : schB c = true := by unfold schB; rw [h]; rfl
/-- what cut answers -/
def cutKV (l : List UInt8) : Value :=
  match schL l with
  | none => .tuple #[.string ⟨#[]⟩, .string ⟨#[]⟩, .bool false]
  | some (n, b) => .tuple #[.string (str n), .string (str b), .bool true]
theorem cutKV_none {l : List UInt8} (h : schL l = none) : cutKV l = .tuple #[.string ⟨#[]⟩, .string ⟨#[]⟩, .bool false] := by unfold cutKV; rw [h]
theorem cutKV_some {l n b : List UInt8} (h : schL l = some (n, b)) : cutKV l = .tuple #[.string (str n), .string (str b), .bool true] := by unfold cutKV; rw [h]
theorem take_drop_at (s : ByteArray) (k : Nat) (h : k < s.size) : s.data.toList = s.data.toList.take k ++ s[k] :: s.data.toList.drop (k + 1) := by
  rw [← drop_cons s k h, List.take_append_drop]
theorem headOK_take (s : ByteArray) (k : Nat) (h0 : 0 < k) (h : headOK s.data.toList = true) : headOK (s.data.toList.take k) = true := by
  cases hl : s.data.toList with
  | nil => rw [hl] at h; cases h
  | cons a r =>
    rw [hl] at h
    obtain ⟨j, rfl⟩ : ∃ j, k = j + 1 := ⟨k - 1, by omega⟩
    exact h
set_option maxHeartbeats 2000000 in
theorem linkCut_any (s : ByteArray) (w : World) (hs : s.size ≤ 1048576) :
    Calls Tryz.prog 46 #[.string s] w fun e w' => e = .returned (cutKV s.data.toList) ∧ Below w.heap.size w w' := by
  go_enter Tryz.func46, Tryz.ntmps46
  go_wp2_with fail
  go_loop [9] (fun i => ∃ k : Nat, k ≤ s.size ∧ i = .int .i64 k ∧ Hid (∀ x ∈ s.data.toList.take k, schB x = true) ∧ Hid (0 < k → headOK s.data.toList = true)) (fun i => s.size - (intOf i).toNat)
  case atStart => exact ⟨0, Nat.zero_le _, rfl, hide (fun x hx => by simp at hx), hide (fun h => absurd h (by omega))⟩
  case round =>
    obtain ⟨k, hk, rfl, HA, HH⟩ := hrel
    by_cases hlt : k < s.size
    · have hsplit := take_drop_at s k hlt
      have hnext : schB s[k] = true → ∀ x ∈ s.data.toList.take (k + 1), schB x = true := by
        intro h x hx
        rw [take_snoc s k hlt] at hx
        rcases List.mem_append.1 hx with hx | hx
        · exact HA.out x hx
        · rw [List.mem_singleton.1 hx]; exact h
      have hhead : letterB s[k] = true → headOK s.data.toList = true ∨ 0 < k := by
        intro h
        rcases Nat.eq_zero_or_pos k with h0 | h0
        · subst h0
          refine .inl ?_
          rw [hsplit]; exact h
        · exact .inr h0
      have hHN := HH.out
      cases hl : letterB s[k] with
      | true =>
        have HL := hide hl
        have HA2 := hide (hnext (sch_letter _ hl))
        have HH2 : Hid (0 < k + 1 → headOK s.data.toList = true) := hide (fun _ => (hhead hl).elim id hHN)
        clear hsplit hnext hhead hHN hl
        go_wp2_with fail
        refine (asciiLetter_any _ _).mono ?_
        rintro e w1 ⟨rfl, rfl⟩
        rw [HL.out]
        go_wp2_with fail
        go_round
        case rel => exact ⟨k + 1, by omega, by go_num, HA2, HH2⟩
        case measure => simp [intOf]; omega
      | false =>
        have HL := hide hl
        rcases Nat.eq_zero_or_pos k with h0 | h0
        · have HN : Hid (schL s.data.toList = none) := hide (by
            have e : s.data.toList = s[k] :: s.data.toList.drop (k + 1) := by rw [← drop_cons s k hlt, h0, List.drop_zero]
            rw [e]; exact schL_head hl)
          have tk : decide ((0 : Int) < ((k : Nat) : Int)) = false := decide_eq_false (by omega)
          have hk0 : ¬ 0 < k := by omega
          clear hsplit hnext hhead hHN hl h0
          go_wp2_with fail
          refine (asciiLetter_any _ _).mono ?_
          rintro e w1 ⟨rfl, rfl⟩
          rw [HL.out]
          go_wp2_with fail
          go_ret3
          exact ⟨by rw [cutKV_none HN.out]; rfl, Below.refl _ _⟩
        · have tk : decide ((0 : Int) < ((k : Nat) : Int)) = true := decide_eq_true (by omega)
          have HM : Hid (markB (⟨#[43, 45, 46]⟩ : ByteArray).data.toList s[k] = schB s[k]) := hide (sch_mark _)
          cases hsc : schB s[k] with
          | true =>
            have HSC := hide hsc
            have HA2 := hide (hnext hsc)
            have HH2 : Hid (0 < k + 1 → headOK s.data.toList = true) := hide (fun _ => hHN h0)
            clear hsplit hnext hhead hHN hl hsc
            go_wp2_with fail
            refine (asciiLetter_any _ _).mono ?_
            rintro e w1 ⟨rfl, rfl⟩
            rw [HL.out]
            go_wp2_with fail
            refine (asciiPlain_any _ _ _).mono ?_
            rintro e w1 ⟨rfl, rfl⟩
            rw [HM.out, HSC.out]
            go_wp2_with fail
            go_round
            case rel => exact ⟨k + 1, by omega, by go_num, HA2, HH2⟩
            case measure => simp [intOf]; omega
          | false =>
            have HSC := hide hsc
            by_cases h58 : s[k] = 58
            · have t58 : ((s[k].toNat : Int) == 58) = true := tT 58 h58 (by omega)
              have HC : Hid (schL s.data.toList = some (lowL (s.data.toList.take k), s.data.toList.drop (k + 1))) := hide (by
                conv => lhs; rw [hsplit, h58]
                exact schL_of (headOK_take s k h0 (hHN h0)) HA.out)
              have HX : Hid ((s.extract 0 k).size ≤ 70368744177664) := hide (by have := extract_size_le s 0 k; omega)
              clear hsplit hnext hhead hHN hl hsc h58
              go_wp2_with fail
              refine (asciiLetter_any _ _).mono ?_
              rintro e w1 ⟨rfl, rfl⟩
              rw [HL.out]
              go_wp2_with fail
              refine (asciiPlain_any _ _ _).mono ?_
              rintro e w1 ⟨rfl, rfl⟩
              rw [HM.out, HSC.out]
              go_wp2_with fail
              have q1 : IntKind.i64.wrap ((k : Int) + 1) = (k : Int) + 1 := IntWalk.i64_in _ (by omega)
              have q2 : (0 : Int) ≤ (k : Int) + 1 := by omega
              have q3 : ((k : Int) + 1).toNat = k + 1 := by omega
              have q4 : (k : Int) + 1 ≤ s.size := by omega
              have q5 : (k : Int) ≤ s.size := by omega
              go_region_with ((with_reducible refine (lower_any _ _ HX.out).mono ?_); rintro e w2 ⟨rfl, hb2⟩)
              all_goals
                try go_wp2_with fail
                go_ret3
                refine ⟨?_, by first | exact hb2 | exact hb2.drew | exact ((Below.refl _ _).drew).trans (hb2.mono (Nat.le_refl _))⟩
                rw [cutKV_some HC.out]
                have e1 : (s.extract 0 k).data.toList = s.data.toList.take k := by rw [extract_list, List.drop_zero]
                have e2 : s.extract (k + 1) s.size = str (s.data.toList.drop (k + 1)) := ext_list (by rw [extract_end, str_toList])
                rw [← e2]
                first | rfl | (rw [← e1]; rfl)
            · have t58 : ((s[k].toNat : Int) == 58) = false := tF 58 h58 (by omega)
              have HN : Hid (schL s.data.toList = none) := hide (by
                rw [hsplit]
                exact schL_stop HA.out hsc h58)
              clear hsplit hnext hhead hHN hl hsc h58
              go_wp2_with fail
              refine (asciiLetter_any _ _).mono ?_
              rintro e w1 ⟨rfl, rfl⟩
              rw [HL.out]
              go_wp2_with fail
              refine (asciiPlain_any _ _ _).mono ?_
              rintro e w1 ⟨rfl, rfl⟩
              rw [HM.out, HSC.out]
              go_wp2_with fail
              go_ret3
              exact ⟨by rw [cutKV_none HN.out]; rfl, Below.refl _ _⟩
    · have HN : Hid (schL s.data.toList = none) := hide (schL_end (by
        have := HA.out
        rwa [List.take_of_length_le (by rw [toList_length]; omega)] at this))
      go_wp2_with fail
      go_ret3
      exact ⟨by rw [cutKV_none HN.out]; rfl, Below.refl _ _⟩

/-- what Scheme answers -/
def schV (l : List UInt8) : Value :=
  match schL l with
  | none => .tuple #[.string ⟨#[]⟩, .bool false]
  | some (n, b) => .tuple #[.string (str n), .bool true]
theorem clean_size (s : ByteArray) : (str (lkClean s.data.toList)).size ≤ s.size := by
  rw [str_size]
  have := clean_length s.data.toList
  rwa [toList_length] at this
theorem noH_case (c : UInt8) : (0 ≤ Lib.indexByte [47, 63, 35, 92] c ∧ noH c = true) ∨ (¬ 0 ≤ Lib.indexByte [47, 63, 35, 92] c ∧ noH c = false) :=
  u8_all (p := fun c => (0 ≤ Lib.indexByte [47, 63, 35, 92] c ∧ noH c = true) ∨ (¬ 0 ≤ Lib.indexByte [47, 63, 35, 92] c ∧ noH c = false)) (by decide +kernel) c
theorem host_not {l : List UInt8} (h : Lib.hasPrefix l [47, 47] = false) : hostB l = false := by
  match l, h with
  | [], _ => rfl
  | [_], _ => rfl
  | [_, _], _ => rfl
  | a :: b :: c :: r, h =>
    cases hh : (a == 47 && b == 47) with
    | true =>
      rw [Bool.and_eq_true, beq_iff_eq, beq_iff_eq] at hh
      rw [hh.1, hh.2] at h
      simp [Lib.hasPrefix] at h
    | false =>
      show (a == 47 && b == 47 && !noH c) = false
      rw [hh]; rfl
theorem host_yes {l : List UInt8} (h : Lib.hasPrefix l [47, 47] = true) : ∃ r, l = 47 :: 47 :: r := by
  unfold Lib.hasPrefix at h
  obtain ⟨r, hr⟩ := List.isPrefixOf_iff_prefix.1 h
  exact ⟨r, hr.symm⟩
/-- what ifHost answers -/
def hostK (l : List UInt8) (K : Nat) : Int := if hostB l = true then (K : Int) else 5
theorem hostK_f {l : List UInt8} (K : Nat) (h : hostB l = false) : hostK l K = 5 := by unfold hostK; rw [h]; rfl
theorem hostK_t {l : List UInt8} (K : Nat) (h : hostB l = true) : hostK l K = K := by unfold hostK; rw [h]; rfl
set_option maxHeartbeats 1000000 in
theorem ifHost_any (s : ByteArray) (K : Nat) (hK : K ≤ 5) (w : World) :
    Calls Tryz.prog 47 #[.string s, .int .i64 K] w fun e w' => e = .returned (.int .i64 (hostK s.data.toList K)) ∧ w = w' := by
  cases hp : Lib.hasPrefix s.data.toList [47, 47] with
  | false =>
    have HR : Hid (hostB s.data.toList = false) := hide (host_not hp)
    have HP : Hid (Lib.hasPrefix s.data.toList (⟨#[47, 47]⟩ : ByteArray).data.toList = false) := hide hp
    clear hp
    go_enter Tryz.func47, Tryz.ntmps47
    go_wp2_with fail
    refine (Tryz.strings_CutPrefix s _ _).mono ?_
    rintro e w1 ⟨rfl, hw⟩
    subst hw
    rw [HP.out]
    go_wp2_with fail
    go_ret
    exact ⟨ret_int (hostK_f K HR.out).symm, rfl⟩
  | true =>
    obtain ⟨r, hr⟩ := host_yes hp
    obtain ⟨T, hT⟩ : ∃ T : ByteArray, T = str r := ⟨_, rfl⟩
    have HP : Hid (Lib.hasPrefix s.data.toList (⟨#[47, 47]⟩ : ByteArray).data.toList = true) := hide hp
    have HT : Hid ((⟨(Lib.trimPrefix s.data.toList (⟨#[47, 47]⟩ : ByteArray).data.toList).toArray⟩ : ByteArray) = T) := hide (by
      rw [hT]
      unfold Lib.trimPrefix
      rw [show (⟨#[47, 47]⟩ : ByteArray).data.toList = [47, 47] from rfl, hp, hr]
      rfl)
    cases r with
    | nil =>
      have HR : Hid (hostB s.data.toList = false) := hide (by rw [hr]; rfl)
      have t0 : T.toList.isEmpty = true := by rw [hT, str_list]; rfl
      have t1 : T.toList = [] := by rw [hT, str_list]
      clear hp hr hT
      go_enter Tryz.func47, Tryz.ntmps47
      go_wp2_with fail
      refine (Tryz.strings_CutPrefix s _ _).mono ?_
      rintro e w1 ⟨rfl, hw⟩
      subst hw
      rw [HP.out, HT.out]
      go_wp2_with fail
      go_ret
      exact ⟨ret_int (hostK_f K HR.out).symm, rfl⟩
    | cons c r =>
      have hTs : 0 < T.size := by rw [hT, str_size]; simp
      have hT0 : T[0] = c := by
        subst hT
        have e := drop_cons (str (c :: r)) 0 hTs
        rw [List.drop_zero, str_toList] at e
        exact (List.cons.inj e).1.symm
      have t0 : T.toList.isEmpty = false := by rw [hT, str_list]; rfl
      have hu : (T[0].toNat : Int).toNat.toUInt8 = c := by rw [hT0, Int.toNat_natCast]; exact UInt8.ofNat_toNat
      have HU := hide hu
      have hc256 := byte_lt c
      have HR : Hid (hostB s.data.toList = !noH c) := hide (by rw [hr]; rfl)
      rcases noH_case c with ⟨m1, m2⟩ | ⟨m1, m2⟩
      all_goals
        have HM : Hid (decide (0 ≤ Lib.indexByte (⟨#[47, 63, 35, 92]⟩ : ByteArray).data.toList c) = _) := hide (show decide (0 ≤ Lib.indexByte [47, 63, 35, 92] c) = noH c by rw [m2]; first | exact decide_eq_true m1 | exact decide_eq_false m1)
        have HM2 := hide m2
        clear hp hr hT hT0 hu m1 m2
        go_enter Tryz.func47, Tryz.ntmps47
        go_wp2_with fail
        refine (Tryz.strings_CutPrefix s _ _).mono ?_
        rintro e w1 ⟨rfl, hw⟩
        subst hw
        rw [HP.out, HT.out]
        go_wp2_with fail
        refine (Tryz.strings_IndexByte _ _ _).mono ?_
        rintro e w1 ⟨rfl, rfl⟩
        rw [HU.out]
        have hm := HM.out
        rw [HM2.out] at hm
        go_wp2_with fail
        go_ret
        exact ⟨ret_int (by first | exact (hostK_f K (by rw [HR.out, HM2.out]; rfl)).symm | exact (hostK_t K (by rw [HR.out, HM2.out]; rfl)).symm), rfl⟩
end Go.Proofs.YtklbdobofclofaaGreatDoor
