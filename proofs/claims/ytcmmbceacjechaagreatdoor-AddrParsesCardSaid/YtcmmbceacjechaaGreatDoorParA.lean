/- WALKS of param.trimmedSmall, rawValue, mayBeName, mayBeMain, written. No statement is proved here. -/
import Derived.Test.YtcmmbceacjechaaGreatDoorQuoteW
import Derived.Test.YtcmmbceacjechaaGreatDoorBaseN
import Derived.Test.YtcmmbceacjechaaGreatDoorWordC
import Derived.Test.YtcmmbceacjechaaGreatDoorBaseM
import Derived.Test.YtcmmbceacjechaaGreatDoorPct
namespace Go.Proofs.YtcmmbceacjechaaGreatDoor
open Go.RowKit
set_option linter.unusedVariables false
set_option linter.unusedSimpArgs false
set_option maxRecDepth 100000
def trP (l : List UInt8) : List UInt8 := Lib.trimS l [32, 9, 10, 13]
/-- a main word, a raw name, as they are told -/
def tsL (l : List UInt8) : List UInt8 := lowL (trP l)
theorem trP_length (l : List UInt8) : (trP l).length ≤ l.length := trimS_length l _
theorem lowL_len (l : List UInt8) : (lowL l).length = l.length := by simp [lowL]
theorem tsL_length (l : List UInt8) : (tsL l).length ≤ l.length := by unfold tsL; rw [lowL_len]; exact trP_length l
theorem trimP_any (s : ByteArray) (w : World) (hs : s.size ≤ maxLen) :
    Calls Tryz.prog 96 #[.string s, .string ⟨#[32, 9, 10, 13]⟩] w fun e w' => e = .returned (.string (str (trP s.data.toList))) ∧ Below w.heap.size w w' :=
  Any.strings_Trim_laid Tryz.lays160 (by kernel_rfl) s ⟨#[32, 9, 10, 13]⟩ w (by unfold maxLen at hs; omega) (by decide) (ascii_of_all (by decide))
theorem trimSmall_any (s : ByteArray) (w : World) (hs : s.size ≤ 1048576) :
    Calls Tryz.prog 51 #[.string s] w fun e w' => e = .returned (.string (str (tsL s.data.toList))) ∧ Below w.heap.size w w' := by
  obtain ⟨T, hT⟩ : ∃ T, T = str (trP s.data.toList) := ⟨_, rfl⟩
  have hz : T.size ≤ 70368744177664 := by
    rw [hT, str_size]; have := trP_length s.data.toList; rw [toList_length] at this; omega
  have HL := hide (fun (w : World) => lower_any T w hz)
  have HT := hide (fun (w : World) => trimP_any s w (by unfold maxLen; omega))
  have hTl : T.data.toList = trP s.data.toList := by rw [hT, str_toList]
  rw [← hT] at HT
  rw [hTl] at HL
  clear hT hz hTl
  go_enter Tryz.func51, Tryz.ntmps51
  go_wp2_with (first
    | (go_at_call 96; refine (HT.out _).mono ?_; rintro e w1 ⟨rfl, hb1⟩; have HB1 := hide hb1; clear hb1)
    | (go_at_call 95; refine (HL.out _).mono ?_; rintro e w2 ⟨rfl, hb2⟩; have HB2 := hide (HB1.out.trans (hb2.mono HB1.out.size)); clear hb2))
  go_ret
  exact ⟨rfl, HB2.out⟩
/-- what stands behind a `=`, without quotes -/
def rvL (l : List UInt8) : List UInt8 := if 0 < (readQ (trP l)).2 then (readQ (trP l)).1 else trP l
theorem rvL_length (l : List UInt8) : (rvL l).length ≤ l.length := by
  have h1 := trP_length l
  have h2 := (readQ_le (trP l)).1
  unfold rvL
  split <;> omega
set_option maxHeartbeats 2000000 in
theorem rawValue_any (s : ByteArray) (w : World) (hs : s.size ≤ 1048576) :
    Calls Tryz.prog 93 #[.string s] w fun e w' => e = .returned (.string (str (rvL s.data.toList))) ∧ Below w.heap.size w w' := by
  obtain ⟨T, hT⟩ : ∃ T, T = str (trP s.data.toList) := ⟨_, rfl⟩
  have hTl : T.data.toList = trP s.data.toList := by rw [hT, str_toList]
  have hz : T.size ≤ 70368744177664 := by
    rw [hT, str_size]; have := trP_length s.data.toList; rw [toList_length] at this; omega
  have HT := hide (fun (w : World) => trimP_any s w (by unfold maxLen; omega))
  rw [← hT] at HT
  obtain ⟨x, n, hx⟩ : ∃ x n, readQ T.data.toList = (x, n) := ⟨_, _, rfl⟩
  have HQ := hide (fun (w : World) => readQ_any T w hz)
  rw [hx] at HQ
  simp only [readV] at HQ
  have HV : Hid (str (rvL s.data.toList) = if 0 < n then str x else T) := hide (by
    unfold rvL
    rw [← hTl, hx]
    simp only
    split
    · rfl
    · rw [str_of])
  rw [HV.out]
  clear hT hz hTl hx HV
  by_cases hn : 0 < n
  · have t1 : decide ((0 : Int) < n) = true := decide_eq_true (by omega)
    have t2 : (0 : Int) < n := by omega
    rw [if_pos hn]
    clear hn
    go_enter Tryz.func93, Tryz.ntmps93
    go_wp2_with (first
      | (go_at_call 96; refine (HT.out _).mono ?_; rintro e w1 ⟨rfl, hb1⟩; have HB1 := hide hb1; clear hb1)
      | (go_at_call 92; refine (HQ.out _).mono ?_; rintro e w2 ⟨rfl, hb2⟩; have HB2 := hide (HB1.out.trans (hb2.mono HB1.out.size)); clear hb2))
    go_ret
    exact ⟨rfl, HB2.out⟩
  · have t1 : decide ((0 : Int) < n) = false := decide_eq_false (by omega)
    have t2 : ¬ (0 : Int) < n := by omega
    rw [if_neg hn]
    clear hn
    go_enter Tryz.func93, Tryz.ntmps93
    go_wp2_with (first
      | (go_at_call 96; refine (HT.out _).mono ?_; rintro e w1 ⟨rfl, hb1⟩; have HB1 := hide hb1; clear hb1)
      | (go_at_call 92; refine (HQ.out _).mono ?_; rintro e w2 ⟨rfl, hb2⟩; have HB2 := hide (HB1.out.trans (hb2.mono HB1.out.size)); clear hb2))
    go_ret
    exact ⟨rfl, HB2.out⟩
/-! ### names -/
def nmB (c : UInt8) : Bool := (97 ≤ c && c ≤ 122) || (48 ≤ c && c ≤ 57) || c == 45
def nameB (l : List UInt8) : Bool := l.all nmB && !l.isEmpty
theorem nmB_case (c : UInt8) : (97 ≤ c.toNat ∧ c.toNat ≤ 122 ∧ nmB c = true) ∨ (¬(97 ≤ c.toNat ∧ c.toNat ≤ 122) ∧ 48 ≤ c.toNat ∧ c.toNat ≤ 57 ∧ nmB c = true) ∨ (¬(97 ≤ c.toNat ∧ c.toNat ≤ 122) ∧ ¬(48 ≤ c.toNat ∧ c.toNat ≤ 57) ∧ c = 45 ∧ nmB c = true) ∨ (¬(97 ≤ c.toNat ∧ c.toNat ≤ 122) ∧ ¬(48 ≤ c.toNat ∧ c.toNat ≤ 57) ∧ c ≠ 45 ∧ nmB c = false) :=
  u8_all (p := fun c => (97 ≤ c.toNat ∧ c.toNat ≤ 122 ∧ nmB c = true) ∨ (¬(97 ≤ c.toNat ∧ c.toNat ≤ 122) ∧ 48 ≤ c.toNat ∧ c.toNat ≤ 57 ∧ nmB c = true) ∨ (¬(97 ≤ c.toNat ∧ c.toNat ≤ 122) ∧ ¬(48 ≤ c.toNat ∧ c.toNat ≤ 57) ∧ c = 45 ∧ nmB c = true) ∨ (¬(97 ≤ c.toNat ∧ c.toNat ≤ 122) ∧ ¬(48 ≤ c.toNat ∧ c.toNat ≤ 57) ∧ c ≠ 45 ∧ nmB c = false)) (by decide +kernel) c
theorem two_tests (a : Nat) (lo hi : Int) (h : ¬(lo ≤ (a : Int) ∧ (a : Int) ≤ hi)) : (decide (lo ≤ (a : Int)) = false) ∨ (decide (lo ≤ (a : Int)) = true ∧ decide ((a : Int) ≤ hi) = false) := by
  by_cases g : lo ≤ (a : Int)
  · exact .inr ⟨decide_eq_true g, decide_eq_false (fun e => h ⟨g, e⟩)⟩
  · exact .inl (decide_eq_false g)
set_option maxHeartbeats 4000000 in
theorem mayName_any (s : ByteArray) (w : World) (hs : s.size ≤ 1048576) :
    Calls Tryz.prog 61 #[.string s] w fun e w' => e = .returned (.bool (nameB s.data.toList)) ∧ w' = w := by
  go_enter Tryz.func61, Tryz.ntmps61
  go_wp2_with fail
  go_loop [7] (fun iv => ∃ k : Nat, k ≤ s.size ∧ iv = .int .i64 k ∧ Hid ((s.data.toList.take k).all nmB = true)) (fun iv => s.size - (intOf iv).toNat)
  case atStart => exact ⟨0, Nat.zero_le _, rfl, hide rfl⟩
  case round =>
    obtain ⟨k, hk, rfl, HA⟩ := hrel
    by_cases hlt : k < s.size
    · have hsn := take_snoc s k hlt
      have hcase := nmB_case s[k]
      have hbl := byte_lt s[k]
      have HNX : Hid (nmB s[k] = true → (s.data.toList.take (k + 1)).all nmB = true) := hide (fun h => by rw [hsn, List.all_append, HA.out]; simp [h])
      have HNO : Hid (nmB s[k] = false → nameB s.data.toList = false) := hide (fun h => by
        have hm : s[k] ∈ s.data.toList := by
          have := drop_cons s k hlt
          exact List.mem_of_mem_drop (i := k) (by rw [this]; exact List.mem_cons_self ..)
        unfold nameB
        have : s.data.toList.all nmB = false := by
          cases e : s.data.toList.all nmB with
          | false => rfl
          | true => rw [List.all_eq_true.1 e _ hm] at h; cases h
        rw [this]; rfl)
      clear hsn
      rcases hcase with ⟨a1, a2, h⟩ | ⟨a1, a2, a3, h⟩ | ⟨a1, a2, a3, h⟩ | ⟨a1, a2, a3, h⟩
      · have HX := hide (HNX.out h)
        have t1 : decide ((97 : Int) ≤ (s[k].toNat : Int)) = true := decide_eq_true (by omega)
        have t2 : decide ((s[k].toNat : Int) ≤ 122) = true := decide_eq_true (by omega)
        clear h a1 a2
        go_wp2_with fail
        go_round
        case rel => exact ⟨k + 1, by omega, by go_num, HX⟩
        case measure => simp [intOf]; omega
      · have HX := hide (HNX.out h)
        have t3 : decide ((48 : Int) ≤ (s[k].toNat : Int)) = true := decide_eq_true (by omega)
        have t4 : decide ((s[k].toNat : Int) ≤ 57) = true := decide_eq_true (by omega)
        have tt := two_tests s[k].toNat 97 122 (by omega)
        clear h a1 a2 a3
        rcases tt with t1 | ⟨t1, t2⟩
        all_goals
          go_wp2_with fail
          go_round
          case rel => exact ⟨k + 1, by omega, by go_num, HX⟩
          case measure => simp [intOf]; omega
      · have HX := hide (HNX.out h)
        have t5 : ((s[k].toNat : Int) == 45) = true := tT 45 a3 (by omega)
        have tt := two_tests s[k].toNat 97 122 (by omega)
        have uu := two_tests s[k].toNat 48 57 (by omega)
        clear h a1 a2 a3
        rcases tt with t1 | ⟨t1, t2⟩
        all_goals rcases uu with t3 | ⟨t3, t4⟩
        all_goals
          go_wp2_with fail
          go_round
          case rel => exact ⟨k + 1, by omega, by go_num, HX⟩
          case measure => simp [intOf]; omega
      · have HX := hide (HNO.out h)
        have t5 : ((s[k].toNat : Int) == 45) = false := tF 45 a3 (by omega)
        have tt := two_tests s[k].toNat 97 122 (by omega)
        have uu := two_tests s[k].toNat 48 57 (by omega)
        clear h a1 a2 a3
        rcases tt with t1 | ⟨t1, t2⟩
        all_goals rcases uu with t3 | ⟨t3, t4⟩
        all_goals
          go_wp2_with fail
          go_ret
          exact ⟨by rw [HX.out] <;> rfl, rfl⟩
    · have hke : k = s.size := by omega
      have HX : Hid (nameB s.data.toList = !s.data.toList.isEmpty) := hide (by
        have := HA.out
        rw [hke, ← toList_length, List.take_length] at this
        unfold nameB; rw [this]; rfl)
      have hbb : s.toList.isEmpty = s.data.toList.isEmpty := by rw [bytes_list]
      rw [← hbb] at HX
      clear hke hbb
      cases hE : s.toList.isEmpty
      all_goals
        rw [hE] at HX
        go_wp2_with fail
        go_ret
        exact ⟨by rw [HX.out] <;> rfl, rfl⟩
end Go.Proofs.YtcmmbceacjechaaGreatDoor
