/- WALK of the law PctBack. No statement is proved here. -/
import Derived.Test.YtienjpelmbldpaaPctLaw0
import Derived.Test.YtienjpelmbldpaaPctRef
namespace Go.Proofs.Ytienjpelmbldpaa
open Go.RowKit
set_option linter.unusedVariables false
set_option linter.unusedSimpArgs false

/-- a byte of what is encoded -/
def tokB (c : UInt8) : Bool := stayB c || c == 37
theorem tok_ref (c : UInt8) (h : tokB c = true) : letterB c = true ∨ (letterB c = false ∧ digitB c = true) ∨ (letterB c = false ∧ digitB c = false ∧ (c = 45 ∨ (c ≠ 45 ∧ (c = 46 ∨ (c ≠ 46 ∧ (c = 95 ∨ (c ≠ 95 ∧ (c = 126 ∨ (c ≠ 126 ∧ c = 37))))))))) :=
  u8_all (p := fun c => tokB c = true → letterB c = true ∨ (letterB c = false ∧ digitB c = true) ∨ (letterB c = false ∧ digitB c = false ∧ (c = 45 ∨ (c ≠ 45 ∧ (c = 46 ∨ (c ≠ 46 ∧ (c = 95 ∨ (c ≠ 95 ∧ (c = 126 ∨ (c ≠ 126 ∧ c = 37)))))))))) (by decide +kernel) c h
theorem sign_tok (c : UInt8) : (pSign c).all tokB = true :=
  u8_all (p := fun c => (pSign c).all tokB = true) (by decide +kernel) c
theorem penc_tok (l : List UInt8) : ∀ c ∈ penc l, tokB c = true := by
  intro c hc
  obtain ⟨x, _, hx⟩ := List.mem_flatMap.1 hc
  exact List.all_eq_true.1 (sign_tok x) c hx

set_option maxHeartbeats 1000000 in
theorem law_PctBack (s : ByteArray) (hss : s.size ≤ maxLen) (w : World) :
    Calls Try.prog 5 #[.string s] w fun e w' => e = .returned (.bool true) ∧ Below w.heap.size w w' := by
  rcases Nat.lt_or_ge 5000 s.size with hqs | hs
  · have HDs : Hid (decide (s.size ≤ 5000) = false) := decide_eq_false (by omega)
    go_enter Try.func5, Try.ntmps5
    go_wp2_with fail
    refine (short3_any s _ hss).mono ?_
    rintro e w1 ⟨rfl, rfl⟩
    rw [HDs.out]
    go_wp2_with fail
    refine (live3_any _).mono ?_
    rintro e w1 ⟨rfl, hb1⟩
    go_wp2_with fail
    go_ret
    exact ⟨rfl, hb1⟩
  have HDs : Hid (decide (s.size ≤ 5000) = true) := decide_eq_true hs
  obtain ⟨t, ht⟩ : ∃ t, t = str (penc s.data.toList) := ⟨_, rfl⟩
  have z1 := (penc_length s.data.toList).2
  rw [toList_length] at z1
  have zt : t.size = (penc s.data.toList).length := by rw [ht, str_size]
  have zt2 : t.size ≤ 15000 := by omega
  have zx : ((⟨#[120, 39, 39]⟩ : ByteArray) ++ t).size = 3 + t.size := ByteArray.size_append
  have HX : Hid (extV (pExt ((⟨#[120, 39, 39]⟩ : ByteArray) ++ t).data.toList) = .tuple #[.string ⟨#[120]⟩, .string s, .bool true]) := hide (by
    have e : ((⟨#[120, 39, 39]⟩ : ByteArray) ++ t).data.toList = 120 :: 39 :: 39 :: penc s.data.toList := by rw [ht]; simp [str]
    rw [e]
    have a1 : afterC 39 (120 :: 39 :: 39 :: penc s.data.toList) = 39 :: penc s.data.toList := rfl
    have a2 : hasC 39 (39 :: penc s.data.toList) = true := hasC_true (List.mem_cons_self ..)
    have a3 : beforeC 39 (120 :: 39 :: 39 :: penc s.data.toList) = [120] := rfl
    have a4 : afterC 39 (39 :: penc s.data.toList) = penc s.data.toList := rfl
    unfold pExt
    rw [a1, a2, if_pos rfl, a3, a4, pdec_penc]
    show Value.tuple #[.string (str (lowL [120])), .string (str s.data.toList), .bool true] = _
    rw [str_of]; rfl)
  have HL : Hid (str (pdec t.data.toList) = s) := hide (by rw [ht, str_toList, pdec_penc, str_of])
  have HB : Hid (∀ c ∈ t.data.toList, tokB c = true) := hide (by rw [ht, str_toList]; exact penc_tok _)
  have HT := hide ht
  clear ht z1 zt
  go_enter Try.func5, Try.ntmps5
  go_wp2_with fail
  refine (short3_any s _ hss).mono ?_
  rintro e w1 ⟨rfl, rfl⟩
  rw [HDs.out]
  go_wp2_with fail
  refine (encode_any _ _ (by omega)).mono ?_
  rintro e w1 ⟨rfl, hb1⟩
  rw [← HT.out]
  go_wp2_with fail
  refine (extended_any _ _ (by omega)).mono ?_
  rintro e w2 ⟨rfl, hb2⟩
  rw [HX.out]
  have k2 := hb1.trans (hb2.mono hb1.size)
  go_wp2_with fail
  go_loop [7] (fun i => ∃ k : Nat, k ≤ t.size ∧ i = .int .i64 k) (fun i => t.size - (intOf i).toNat)
  case atStart => exact ⟨0, Nat.zero_le _, rfl⟩
  case round =>
    obtain ⟨k, hk, rfl⟩ := hrel
    by_cases hlt : k < t.size
    · have hm : t[k] ∈ t.data.toList := by rw [← Array.mem_def]; exact Array.getElem_mem (by exact hlt)
      have hcase := tok_ref t[k] (HB.out _ hm)
      clear hm
      generalize hc : t[k] = c at hcase
      rcases hcase with p1 | ⟨p1, p2⟩ | ⟨p1, p2, h | ⟨h1, h | ⟨h2, h | ⟨h3, h | ⟨h4, h⟩⟩⟩⟩⟩
      · have P1 := hide p1
        clear p1
        go_wp2_with fail
        refine (letter_any c _).mono ?_
        rintro e w1 ⟨rfl, rfl⟩
        rw [P1.out]
        go_wp2_with fail
        go_round
        case rel => exact ⟨k + 1, by omega, by go_num⟩
        case measure => simp [intOf]; omega
      · have P1 := hide p1
        clear p1
        have P2 := hide p2
        clear p2
        go_wp2_with fail
        refine (letter_any c _).mono ?_
        rintro e w1 ⟨rfl, rfl⟩
        rw [P1.out]
        go_wp2_with fail
        refine (digit03_any c _).mono ?_
        rintro e w1 ⟨rfl, rfl⟩
        rw [P2.out]
        go_wp2_with fail
        go_round
        case rel => exact ⟨k + 1, by omega, by go_num⟩
        case measure => simp [intOf]; omega
      · have P1 := hide p1
        clear p1
        have P2 := hide p2
        clear p2
        subst h
        go_wp2_with fail
        refine (letter_any 45 _).mono ?_
        rintro e w1 ⟨rfl, rfl⟩
        rw [P1.out]
        go_wp2_with fail
        refine (digit03_any 45 _).mono ?_
        rintro e w1 ⟨rfl, rfl⟩
        rw [P2.out]
        go_wp2_with fail
        go_round
        case rel => exact ⟨k + 1, by omega, by go_num⟩
        case measure => simp [intOf]; omega
      · have P1 := hide p1
        clear p1
        have P2 := hide p2
        clear p2
        subst h
        clear h1
        go_wp2_with fail
        refine (letter_any 46 _).mono ?_
        rintro e w1 ⟨rfl, rfl⟩
        rw [P1.out]
        go_wp2_with fail
        refine (digit03_any 46 _).mono ?_
        rintro e w1 ⟨rfl, rfl⟩
        rw [P2.out]
        go_wp2_with fail
        go_round
        case rel => exact ⟨k + 1, by omega, by go_num⟩
        case measure => simp [intOf]; omega
      · have P1 := hide p1
        clear p1
        have P2 := hide p2
        clear p2
        subst h
        clear h1
        clear h2
        go_wp2_with fail
        refine (letter_any 95 _).mono ?_
        rintro e w1 ⟨rfl, rfl⟩
        rw [P1.out]
        go_wp2_with fail
        refine (digit03_any 95 _).mono ?_
        rintro e w1 ⟨rfl, rfl⟩
        rw [P2.out]
        go_wp2_with fail
        go_round
        case rel => exact ⟨k + 1, by omega, by go_num⟩
        case measure => simp [intOf]; omega
      · have P1 := hide p1
        clear p1
        have P2 := hide p2
        clear p2
        subst h
        clear h1
        clear h2
        clear h3
        go_wp2_with fail
        refine (letter_any 126 _).mono ?_
        rintro e w1 ⟨rfl, rfl⟩
        rw [P1.out]
        go_wp2_with fail
        refine (digit03_any 126 _).mono ?_
        rintro e w1 ⟨rfl, rfl⟩
        rw [P2.out]
        go_wp2_with fail
        go_round
        case rel => exact ⟨k + 1, by omega, by go_num⟩
        case measure => simp [intOf]; omega
      · have P1 := hide p1
        clear p1
        have P2 := hide p2
        clear p2
        subst h
        clear h1
        clear h2
        clear h3
        clear h4
        go_wp2_with fail
        refine (letter_any 37 _).mono ?_
        rintro e w1 ⟨rfl, rfl⟩
        rw [P1.out]
        go_wp2_with fail
        refine (digit03_any 37 _).mono ?_
        rintro e w1 ⟨rfl, rfl⟩
        rw [P2.out]
        go_wp2_with fail
        go_round
        case rel => exact ⟨k + 1, by omega, by go_num⟩
        case measure => simp [intOf]; omega
    · go_wp2_with fail
      refine (decode_any _ _ (by omega)).mono ?_
      rintro e w4 ⟨rfl, hb4⟩
      rw [HL.out]
      have k4 := k2.trans (hb4.mono k2.size)
      go_wp2_with fail
      refine (live3_any _).mono ?_
      rintro e wl ⟨rfl, hbl⟩
      go_wp2_with fail
      go_ret
      exact ⟨rfl, k4.trans (hbl.mono k4.size)⟩
end Go.Proofs.Ytienjpelmbldpaa
