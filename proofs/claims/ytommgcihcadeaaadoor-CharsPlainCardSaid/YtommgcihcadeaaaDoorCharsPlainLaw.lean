/- WALK of the law CharsPlain. No statement is proved here. -/
import Derived.Test.YtommgcihcadeaaaDoorCharsLaw0
namespace Go.Proofs.YtommgcihcadeaaaDoor
open Go.RowKit
set_option linter.unusedVariables false
set_option linter.unusedSimpArgs false

set_option maxHeartbeats 2000000 in
theorem law_CharsPlain (label : ByteArray) (hlabellabel : label.size ≤ maxLen) (s : ByteArray) (hss : s.size ≤ maxLen) (w : World) (hT : Tab w) :
    Calls Tryd.prog 7 #[.string label, .string s] w fun e w' => e = .returned (.bool true) ∧ Below w.heap.size w w' := by
  have H0 := hide hT.lt
  have HT := hide hT
  clear hT
  rcases Nat.lt_or_ge 5000 s.size with hqs | hs
  · have HDs : Hid (decide (s.size ≤ 5000) = false) := decide_eq_false (by omega)
    go_enter Tryd.func7, Tryd.ntmps7
    go_wp2_with fail
    refine (short4_any s _ hss).mono ?_
    rintro e w1 ⟨rfl, rfl⟩
    rw [HDs.out]
    go_wp2_with fail
    refine (live4_any _ (HT.out.below (Below.refl _ _) H0.out)).mono ?_
    rintro e w1 ⟨rfl, hb1⟩
    go_wp2_with fail
    go_ret
    exact ⟨rfl, hb1⟩
  have HDs : Hid (decide (s.size ≤ 5000) = true) := decide_eq_true hs
  rcases Nat.lt_or_ge 5000 label.size with hqlabel | hlabel
  · have HDlabel : Hid (decide (label.size ≤ 5000) = false) := decide_eq_false (by omega)
    go_enter Tryd.func7, Tryd.ntmps7
    go_wp2_with fail
    refine (short4_any s _ hss).mono ?_
    rintro e w1 ⟨rfl, rfl⟩
    rw [HDs.out]
    go_wp2_with fail
    refine (short4_any label _ hlabellabel).mono ?_
    rintro e w1 ⟨rfl, rfl⟩
    rw [HDlabel.out]
    go_wp2_with fail
    refine (live4_any _ (HT.out.below (Below.refl _ _) H0.out)).mono ?_
    rintro e w1 ⟨rfl, hb1⟩
    go_wp2_with fail
    go_ret
    exact ⟨rfl, hb1⟩
  have HDlabel : Hid (decide (label.size ≤ 5000) = true) := decide_eq_true hlabel
  have hD : decV (kindL label.data.toList) s.data.toList = .tuple #[.string (str (decodeL (kindL label.data.toList) s.data.toList)), .bool (decide (0 < kindL label.data.toList))] := rfl
  have HD := hide hD
  clear hD
  have HKL : Hid (∀ (h : ∀ c ∈ s.data.toList, c.toNat < 128), decV (kindL label.data.toList) s.data.toList = .tuple #[.string s, .bool (decide (0 < kindL label.data.toList))] ∨ kindL label.data.toList = 3 ∨ kindL label.data.toList = 4) := hide (fun h => by
    by_cases h3 : kindL label.data.toList = 3
    · exact .inr (.inl h3)
    by_cases h4 : kindL label.data.toList = 4
    · exact .inr (.inr h4)
    · refine .inl ?_
      unfold decV
      rw [decodeL_plain _ _ h h3 h4, str_of])
  have HK := hide (fun (w : World) => known_any label w (by omega))
  have HDD := hide (fun (w : World) (h : Tab w) => charsDecode_any label s w (by omega) (by omega) h)
  have hk5 := kind_lt label.data.toList
  generalize kindL label.data.toList = k at HD HKL HK HDD hk5
  go_enter Tryd.func7, Tryd.ntmps7
  go_wp2_with fail
  refine (short4_any s _ hss).mono ?_
  rintro e w1 ⟨rfl, rfl⟩
  rw [HDs.out]
  go_wp2_with fail
  refine (short4_any label _ hlabellabel).mono ?_
  rintro e w1 ⟨rfl, rfl⟩
  rw [HDlabel.out]
  go_wp2_with fail
  go_loop [5] (fun i => ∃ j : Nat, j ≤ s.size ∧ i = .int .i64 j ∧ ∀ q : Nat, q < j → ∀ c, s.data.toList[q]? = some c → c.toNat < 128) (fun i => s.size - (intOf i).toNat)
  case atStart => exact ⟨0, Nat.zero_le _, rfl, fun q hq => absurd hq (by omega)⟩
  case round =>
    obtain ⟨j, hj, rfl, hd⟩ := hrel
    have HJ := hide hd
    clear hd
    by_cases hlt : j < s.size
    · have hg : s.data.toList[j]? = some s[j] := by rw [List.getElem?_eq_getElem (by rw [toList_length]; exact hlt)]; rfl
      have HG := hide hg
      clear hg
      by_cases h7 : 127 < s[j].toNat
      · have t0 : decide ((127 : Int) < s[j].toNat) = true := decide_eq_true (by omega)
        clear h7
        go_wp2_with fail
        refine (live4_any _ HT.out).mono ?_
        rintro e wl ⟨rfl, hbl⟩
        go_wp2_with fail
        go_ret
        exact ⟨rfl, hbl⟩
      · have HC := hide h7
        go_wp2_with fail
        go_round
        case rel => exact ⟨j + 1, by omega, by go_num, fun q hq c hc => by
          rcases Nat.lt_succ_iff_lt_or_eq.1 hq with h' | h'
          · exact HJ.out q h' c hc
          · rw [h', HG.out] at hc
            have := Option.some.inj hc
            rw [← this]; have := HC.out; omega⟩
        case measure => simp [intOf]; omega
    · have hall : ∀ c ∈ s.data.toList, c.toNat < 128 := fun c hc => by
        obtain ⟨q, hq⟩ := List.mem_iff_getElem?.1 hc
        have := (List.getElem?_eq_some_iff.1 hq).1
        rw [toList_length] at this
        exact HJ.out q (by omega) c hq
      have hpl := HKL.out hall
      clear hall
      have hk : (k = 0 ∧ knownV k = .tuple #[.string ⟨#[]⟩, .bool false]) ∨ (k = 1 ∧ knownV k = .tuple #[.string ⟨#[117, 116, 102, 45, 56]⟩, .bool true]) ∨ (k = 2 ∧ knownV k = .tuple #[.string ⟨#[119, 105, 110, 100, 111, 119, 115, 45, 49, 50, 53, 50]⟩, .bool true]) ∨
          (k = 3 ∧ knownV k = .tuple #[.string ⟨#[117, 116, 102, 45, 49, 54, 108, 101]⟩, .bool true]) ∨ (k = 4 ∧ knownV k = .tuple #[.string ⟨#[117, 116, 102, 45, 49, 54, 98, 101]⟩, .bool true]) := by
        have : k = 0 ∨ k = 1 ∨ k = 2 ∨ k = 3 ∨ k = 4 := by omega
        rcases this with rfl | rfl | rfl | rfl | rfl
        · exact .inl ⟨rfl, rfl⟩
        · exact .inr (.inl ⟨rfl, rfl⟩)
        · exact .inr (.inr (.inl ⟨rfl, rfl⟩))
        · exact .inr (.inr (.inr (.inl ⟨rfl, rfl⟩)))
        · exact .inr (.inr (.inr (.inr ⟨rfl, rfl⟩)))
      clear hk5
      rcases hk with ⟨rfl, hv⟩ | ⟨rfl, hv⟩ | ⟨rfl, hv⟩ | ⟨rfl, hv⟩ | ⟨rfl, hv⟩
      · have HV := hide hv
        have HP : Hid (decV 0 s.data.toList = .tuple #[.string s, .bool false]) := hide (by
          rcases hpl with h | h | h
          · exact h
          · exact absurd h (by decide)
          · exact absurd h (by decide))
        clear hv hpl
        go_wp2_with fail
        refine (HK.out _).mono ?_
        rintro e w1 ⟨rfl, hb1⟩
        rw [HV.out]
        go_wp2_with fail
        refine (HDD.out _ (HT.out.below hb1 H0.out)).mono ?_
        rintro e w2 ⟨rfl, hb2⟩
        rw [HP.out]
        have k2 := hb1.trans (hb2.mono hb1.size)
        go_wp2_with fail
        refine (live4_any _ (HT.out.below k2 H0.out)).mono ?_
        rintro e wl ⟨rfl, hbl⟩
        go_wp2_with fail
        go_ret
        exact ⟨rfl, k2.trans (hbl.mono k2.size)⟩
      · have HV := hide hv
        have HP : Hid (decV 1 s.data.toList = .tuple #[.string s, .bool true]) := hide (by
          rcases hpl with h | h | h
          · exact h
          · exact absurd h (by decide)
          · exact absurd h (by decide))
        clear hv hpl
        go_wp2_with fail
        refine (HK.out _).mono ?_
        rintro e w1 ⟨rfl, hb1⟩
        rw [HV.out]
        go_wp2_with fail
        refine (HDD.out _ (HT.out.below hb1 H0.out)).mono ?_
        rintro e w2 ⟨rfl, hb2⟩
        rw [HP.out]
        have k2 := hb1.trans (hb2.mono hb1.size)
        go_wp2_with fail
        refine (live4_any _ (HT.out.below k2 H0.out)).mono ?_
        rintro e wl ⟨rfl, hbl⟩
        go_wp2_with fail
        go_ret
        exact ⟨rfl, k2.trans (hbl.mono k2.size)⟩
      · have HV := hide hv
        have HP : Hid (decV 2 s.data.toList = .tuple #[.string s, .bool true]) := hide (by
          rcases hpl with h | h | h
          · exact h
          · exact absurd h (by decide)
          · exact absurd h (by decide))
        clear hv hpl
        go_wp2_with fail
        refine (HK.out _).mono ?_
        rintro e w1 ⟨rfl, hb1⟩
        rw [HV.out]
        go_wp2_with fail
        refine (HDD.out _ (HT.out.below hb1 H0.out)).mono ?_
        rintro e w2 ⟨rfl, hb2⟩
        rw [HP.out]
        have k2 := hb1.trans (hb2.mono hb1.size)
        go_wp2_with fail
        refine (live4_any _ (HT.out.below k2 H0.out)).mono ?_
        rintro e wl ⟨rfl, hbl⟩
        go_wp2_with fail
        go_ret
        exact ⟨rfl, k2.trans (hbl.mono k2.size)⟩
      · have HV := hide hv
        have HP : Hid (decV 3 s.data.toList = .tuple #[.string (str (pairsL false s.data.toList)), .bool true]) := hide rfl
        obtain ⟨P, hP⟩ : ∃ P, P = str (pairsL false s.data.toList) := ⟨_, rfl⟩
        rw [← hP] at HP
        clear hv hpl hP
        have hps : (P.toList == s.toList) = true ∨ (P.toList == s.toList) = false := by cases (P.toList == s.toList) <;> simp
        rcases hps with hps | hps
        all_goals
          go_wp2_with fail
          refine (HK.out _).mono ?_
          rintro e w1 ⟨rfl, hb1⟩
          rw [HV.out]
          go_wp2_with fail
          refine (HDD.out _ (HT.out.below hb1 H0.out)).mono ?_
          rintro e w2 ⟨rfl, hb2⟩
          rw [HP.out]
          have k2 := hb1.trans (hb2.mono hb1.size)
          go_wp2_with fail
          refine (live4_any _ (HT.out.below k2 H0.out)).mono ?_
          rintro e wl ⟨rfl, hbl⟩
          go_wp2_with fail
          go_ret
          exact ⟨rfl, k2.trans (hbl.mono k2.size)⟩
      · have HV := hide hv
        have HP : Hid (decV 4 s.data.toList = .tuple #[.string (str (pairsL true s.data.toList)), .bool true]) := hide rfl
        obtain ⟨P, hP⟩ : ∃ P, P = str (pairsL true s.data.toList) := ⟨_, rfl⟩
        rw [← hP] at HP
        clear hv hpl hP
        have hps : (P.toList == s.toList) = true ∨ (P.toList == s.toList) = false := by cases (P.toList == s.toList) <;> simp
        rcases hps with hps | hps
        all_goals
          go_wp2_with fail
          refine (HK.out _).mono ?_
          rintro e w1 ⟨rfl, hb1⟩
          rw [HV.out]
          go_wp2_with fail
          refine (HDD.out _ (HT.out.below hb1 H0.out)).mono ?_
          rintro e w2 ⟨rfl, hb2⟩
          rw [HP.out]
          have k2 := hb1.trans (hb2.mono hb1.size)
          go_wp2_with fail
          refine (live4_any _ (HT.out.below k2 H0.out)).mono ?_
          rintro e wl ⟨rfl, hbl⟩
          go_wp2_with fail
          go_ret
          exact ⟨rfl, k2.trans (hbl.mono k2.size)⟩
end Go.Proofs.YtommgcihcadeaaaDoor
