/- WALKS of word.labelOf, bytesOf, One. No statement is proved here. -/
import Derived.Test.YtcmmbceacjechaaGreatDoorBaseM
import Derived.Test.YtcmmbceacjechaaGreatDoorWordQ
import Derived.Test.YtcmmbceacjechaaGreatDoorAny
import Derived.Test.YtcmmbceacjechaaGreatDoorCut
import Derived.Test.YtcmmbceacjechaaGreatDoorB64Dec
import Derived.Test.YtcmmbceacjechaaGreatDoorCharsD
namespace Go.Proofs.YtcmmbceacjechaaGreatDoor
open Go.RowKit
set_option linter.unusedVariables false
set_option linter.unusedSimpArgs false
set_option maxRecDepth 100000

theorem hasAny_ws (l : List UInt8) : hasAny [32, 9, 10, 13] l = !noWs l := by
  unfold hasAny noWs
  induction l with
  | nil => rfl
  | cons a r ih =>
    have : ∀ c : UInt8, [32, 9, 10, 13].contains c = wsB c := u8_all (p := fun c => [32, 9, 10, 13].contains c = wsB c) (by decide +kernel)
    rw [List.any_cons, List.all_cons, ih, this, Bool.not_and, Bool.not_not]
theorem containsWs_any (s : ByteArray) (w : World) (hs : s.size ≤ 1048576) :
    Calls Tryz.prog 75 #[.string s, .string ⟨#[32, 9, 10, 13]⟩] w fun e w' => e = .returned (.bool (!noWs s.data.toList)) ∧ Below w.heap.size w w' :=
  (containsAny_any s ⟨#[32, 9, 10, 13]⟩ w (by decide) (by decide) hs (by decide)).mono fun e w' ⟨he, hb⟩ => ⟨by rw [he, ← hasAny_ws], hb⟩
theorem prefix_take (l p : List UInt8) : Lib.hasPrefix l p = decide (l.take p.length = p) := by
  unfold Lib.hasPrefix
  cases h : p.isPrefixOf l with
  | true => exact (decide_eq_true (List.prefix_iff_eq_take.1 (List.isPrefixOf_iff_prefix.1 h)).symm).symm
  | false =>
    refine (decide_eq_false fun e => ?_).symm
    have := List.isPrefixOf_iff_prefix.2 (List.prefix_iff_eq_take.2 e.symm)
    rw [h] at this; cases this
theorem cutPrefix_yes (s : ByteArray) (p : List UInt8) (w : World) (h : s.data.toList.take p.length = p) :
    Calls Tryz.prog 130 #[.string s, .string (str p)] w fun e w' => e = .returned (.tuple #[.string (str (s.data.toList.drop p.length)), .bool true]) ∧ w = w' :=
  (Tryz.strings_CutPrefix s (str p) w).mono fun e w' ⟨he, hw⟩ => ⟨by
    have e1 : Lib.hasPrefix s.data.toList p = true := by rw [prefix_take]; exact decide_eq_true h
    rw [he, str_toList, Lib.trimPrefix, e1]; rfl, hw.symm⟩
theorem cutPrefix_no (s : ByteArray) (p : List UInt8) (w : World) (h : s.data.toList.take p.length ≠ p) :
    Calls Tryz.prog 130 #[.string s, .string (str p)] w fun e w' => e = .returned (.tuple #[.string s, .bool false]) ∧ w = w' :=
  (Tryz.strings_CutPrefix s (str p) w).mono fun e w' ⟨he, hw⟩ => ⟨by
    have e1 : Lib.hasPrefix s.data.toList p = false := by rw [prefix_take]; exact decide_eq_false h
    rw [he, str_toList, Lib.trimPrefix, e1]
    show Ending.returned (.tuple #[.string (str s.data.toList), .bool false]) = _
    rw [str_of], hw.symm⟩

/-- what labelOf answers -/
def labelV (l : List UInt8) : Value := if l.length ≤ 40 ∧ noWs l = true then .tuple #[.string (str (beforeC 42 l)), .bool (decide (0 < kindL (beforeC 42 l)))] else .tuple #[.string ⟨#[]⟩, .bool false]
theorem labelV_no {l : List UInt8} (h : labelK l = 0) : ∃ y, labelV l = .tuple #[.string y, .bool false] := by
  unfold labelV
  unfold labelK at h
  split
  · rename_i hc
    rw [if_pos hc] at h
    exact ⟨_, by rw [h]; rfl⟩
  · exact ⟨_, rfl⟩
theorem labelV_yes {l : List UInt8} (h : labelK l ≠ 0) : labelV l = .tuple #[.string (str (beforeC 42 l)), .bool true] ∧ kindL (beforeC 42 l) = labelK l := by
  unfold labelV
  unfold labelK at h ⊢
  by_cases hc : l.length ≤ 40 ∧ noWs l = true
  · rw [if_pos hc] at h
    rw [if_pos hc, if_pos hc]
    exact ⟨by rw [decide_eq_true (by omega)], rfl⟩
  · rw [if_neg hc] at h
    exact absurd rfl h

set_option maxHeartbeats 1000000 in
theorem labelOf_any (s : ByteArray) (w : World) (hs : s.size ≤ 1048576) :
    Calls Tryz.prog 208 #[.string s] w fun e w' => e = .returned (labelV s.data.toList) ∧ Below w.heap.size w w' := by
  have hl := toList_length s
  by_cases h40 : 40 < s.size
  · have HV : Hid (labelV s.data.toList = .tuple #[.string ⟨#[]⟩, .bool false]) := hide (if_neg (fun h => by have := h.1; omega))
    have t0 : decide ((40 : Int) < s.size) = true := decide_eq_true (by omega)
    clear hl h40
    go_enter Tryz.func208, Tryz.ntmps208
    go_wp2_with fail
    go_ret2
    exact ⟨by rw [HV.out]; rfl, Below.refl _ _⟩
  · have t0 : decide ((40 : Int) < s.size) = false := decide_eq_false (by omega)
    cases hw : noWs s.data.toList with
    | false =>
      have HV : Hid (labelV s.data.toList = .tuple #[.string ⟨#[]⟩, .bool false]) := hide (if_neg (fun h => by rw [hw] at h; exact absurd h.2 (by decide)))
      have HW := hide hw
      clear hl h40 hw
      go_enter Tryz.func208, Tryz.ntmps208
      go_wp2_with fail
      refine (containsWs_any _ _ hs).mono ?_
      rintro e w1 ⟨rfl, hb1⟩
      rw [HW.out]
      go_wp2_with fail
      go_ret2
      exact ⟨by rw [HV.out]; rfl, hb1⟩
    | true =>
      have HV : Hid (labelV s.data.toList = .tuple #[.string (str (beforeC 42 s.data.toList)), .bool (decide (0 < kindL (beforeC 42 s.data.toList)))]) := hide (if_pos ⟨by omega, hw⟩)
      have HW := hide hw
      have HZ := hide (show (str (beforeC 42 s.data.toList)).size ≤ 70368744177664 by rw [str_size]; have := beforeC_le 42 s.data.toList; omega)
      clear hl h40 hw
      go_enter Tryz.func208, Tryz.ntmps208
      go_wp2_with fail
      refine (containsWs_any _ _ hs).mono ?_
      rintro e w1 ⟨rfl, hb1⟩
      rw [HW.out]
      go_wp2_with fail
      refine (strCut_any _ 42 _ (by omega)).mono ?_
      rintro e w2 ⟨rfl, hb2⟩
      unfold cutV
      go_wp2_with fail
      refine (known_any _ _ HZ.out).mono ?_
      rintro e w3 ⟨rfl, hb3⟩
      rw [str_toList]
      unfold knownV
      go_wp2_with fail
      go_ret2
      have k2 := hb1.trans (hb2.mono hb1.size)
      exact ⟨by rw [HV.out]; rfl, k2.trans (hb3.mono k2.size)⟩

/-- what bytesOf answers -/
def bytesV : Option (List UInt8) → Value
  | some b => .tuple #[.string (str b), .bool true]
  | none => .tuple #[.string ⟨#[]⟩, .bool false]
theorem listE {x : ByteArray} {l : List UInt8} (h : x.data.toList = l) : (x.toList == l) = true := by
  rw [bytes_list, h]; exact beq_self_eq_true l
theorem listN {x : ByteArray} {l : List UInt8} (h : x.data.toList ≠ l) : (x.toList == l) = false := by
  rw [bytes_list]; exact beq_eq_false_iff_ne.2 h
set_option maxHeartbeats 1000000 in
theorem bytesOf_any (x t : ByteArray) (w : World) (ht : t.size ≤ 1048576) :
    Calls Tryz.prog 209 #[.string x, .string t] w fun e w' => e = .returned (bytesV (bytesO x.data.toList t.data.toList)) ∧ Below w.heap.size w w' := by
  cases hw : noWs t.data.toList with
  | false =>
    have HV : Hid (bytesO x.data.toList t.data.toList = none) := hide (if_neg (by rw [hw]; decide))
    have HW := hide hw
    clear hw
    go_enter Tryz.func209, Tryz.ntmps209
    go_wp2_with fail
    refine (containsWs_any _ _ ht).mono ?_
    rintro e w1 ⟨rfl, hb1⟩
    rw [HW.out]
    go_wp2_with fail
    go_ret2
    exact ⟨by rw [HV.out]; rfl, hb1⟩
  | true =>
    have HW := hide hw
    have h0 : bytesO x.data.toList t.data.toList = if x.data.toList = [66] ∨ x.data.toList = [98] then some (decB t.data.toList) else if x.data.toList = [81] ∨ x.data.toList = [113] then some (qdec t.data.toList) else none := if_pos hw
    clear hw
    by_cases h66 : x.data.toList = [66]
    · have HV : Hid (bytesO x.data.toList t.data.toList = some (decB t.data.toList)) := hide (by rw [h0, if_pos (.inl h66)])
      have t1 := listE h66
      clear h0 h66
      go_enter Tryz.func209, Tryz.ntmps209
      go_wp2_with fail
      refine (containsWs_any _ _ ht).mono ?_
      rintro e w1 ⟨rfl, hb1⟩
      rw [HW.out]
      go_wp2_with fail
      refine (decode64_any _ _ ht).mono ?_
      rintro e w2 ⟨rfl, hb2⟩
      go_wp2_with fail
      go_ret2
      exact ⟨by rw [HV.out]; rfl, hb1.trans (hb2.mono hb1.size)⟩
    have t1 := listN h66
    by_cases h98 : x.data.toList = [98]
    · have HV : Hid (bytesO x.data.toList t.data.toList = some (decB t.data.toList)) := hide (by rw [h0, if_pos (.inr h98)])
      have t2 := listE h98
      clear h0 h66 h98
      go_enter Tryz.func209, Tryz.ntmps209
      go_wp2_with fail
      refine (containsWs_any _ _ ht).mono ?_
      rintro e w1 ⟨rfl, hb1⟩
      rw [HW.out]
      go_wp2_with fail
      refine (decode64_any _ _ ht).mono ?_
      rintro e w2 ⟨rfl, hb2⟩
      go_wp2_with fail
      go_ret2
      exact ⟨by rw [HV.out]; rfl, hb1.trans (hb2.mono hb1.size)⟩
    have t2 := listN h98
    rw [if_neg (fun h => h.elim h66 h98)] at h0
    by_cases h81 : x.data.toList = [81]
    · have HV : Hid (bytesO x.data.toList t.data.toList = some (qdec t.data.toList)) := hide (by rw [h0, if_pos (.inl h81)])
      have t3 := listE h81
      clear h0 h66 h98 h81
      go_enter Tryz.func209, Tryz.ntmps209
      go_wp2_with fail
      refine (containsWs_any _ _ ht).mono ?_
      rintro e w1 ⟨rfl, hb1⟩
      rw [HW.out]
      go_wp2_with fail
      refine (fromQ_any _ _ (by omega)).mono ?_
      rintro e w2 ⟨rfl, hb2⟩
      go_wp2_with fail
      go_ret2
      exact ⟨by rw [HV.out]; rfl, hb1.trans (hb2.mono hb1.size)⟩
    have t3 := listN h81
    by_cases h113 : x.data.toList = [113]
    · have HV : Hid (bytesO x.data.toList t.data.toList = some (qdec t.data.toList)) := hide (by rw [h0, if_pos (.inr h113)])
      have t4 := listE h113
      clear h0 h66 h98 h81 h113
      go_enter Tryz.func209, Tryz.ntmps209
      go_wp2_with fail
      refine (containsWs_any _ _ ht).mono ?_
      rintro e w1 ⟨rfl, hb1⟩
      rw [HW.out]
      go_wp2_with fail
      refine (fromQ_any _ _ (by omega)).mono ?_
      rintro e w2 ⟨rfl, hb2⟩
      go_wp2_with fail
      go_ret2
      exact ⟨by rw [HV.out]; rfl, hb1.trans (hb2.mono hb1.size)⟩
    have t4 := listN h113
    have HV : Hid (bytesO x.data.toList t.data.toList = none) := hide (by rw [h0, if_neg (fun h => h.elim h81 h113)])
    clear h0 h66 h98 h81 h113
    go_enter Tryz.func209, Tryz.ntmps209
    go_wp2_with fail
    refine (containsWs_any _ _ ht).mono ?_
    rintro e w1 ⟨rfl, hb1⟩
    rw [HW.out]
    go_wp2_with fail
    go_ret2
    exact ⟨by rw [HV.out]; rfl, hb1⟩
end Go.Proofs.YtcmmbceacjechaaGreatDoor
