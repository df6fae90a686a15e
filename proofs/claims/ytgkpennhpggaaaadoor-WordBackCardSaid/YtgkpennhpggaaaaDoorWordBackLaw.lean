/- WALK of the law WordBack. No statement is proved here. -/
import Derived.Test.YtgkpennhpggaaaaDoorWordShortLaw
namespace Go.Proofs.YtgkpennhpggaaaaDoor
open Go.RowKit
set_option linter.unusedVariables false
set_option linter.unusedSimpArgs false
set_option maxRecDepth 100000

theorem contains_iff (l : List UInt8) (h : Lib.contains l [61, 63] = false) : ∀ i, (l.drop i).take 2 ≠ [61, 63] := by
  intro i e
  unfold Lib.contains at h
  have h0 : ¬ 0 ≤ Lib.index l [61, 63] := of_decide_eq_false h
  have hoc : Lib.occAt l [61, 63] i = true := by
    unfold Lib.occAt
    exact List.isPrefixOf_iff_prefix.2 (List.prefix_iff_eq_take.2 e.symm)
  rcases Lib.index_spec l [61, 63] with ⟨_, h2⟩ | ⟨j, h2, _⟩
  · by_cases hi : i ≤ l.length
    · rw [h2 i hi] at hoc; cases hoc
    · rw [List.drop_eq_nil_of_le (by omega)] at e; cases e
  · rw [h2] at h0; omega
theorem plain_parts {l : List UInt8} (h : plainL l = true) : (∀ c ∈ l, 32 ≤ c.toNat ∧ c.toNat ≤ 126) ∧ ∀ i, (l.drop i).take 2 ≠ [61, 63] := by
  unfold plainL at h
  rw [Bool.and_eq_true] at h
  refine ⟨fun c hc => ?_, contains_iff l (by simpa using h.2)⟩
  have := List.all_eq_true.1 h.1 c hc
  rw [Bool.and_eq_true, decide_eq_true_eq, decide_eq_true_eq] at this
  omega
theorem encodeL_signs (l : List UInt8) : ∀ c ∈ encodeL l, 32 ≤ c.toNat ∧ c.toNat ≤ 126 := by
  intro c hc
  unfold encodeL at hc
  cases hp : plainL l with
  | true => rw [hp] at hc; exact (plain_parts hp).1 c hc
  | false => rw [hp] at hc; exact joinW_signs _ c hc
/-- what is encoded is decoded to what is valid -/
theorem decode_encode (l : List UInt8) : decW false [] (encodeL l) = validL l := by
  unfold encodeL
  cases hp : plainL l with
  | true =>
    show decW false [] l = validL l
    rw [decW_plain false [] l (plain_parts hp).2, List.nil_append]
  | false =>
    show decW false [] (joinW (groups (validL l))) = validL l
    by_cases hv : validL l = []
    · rw [hv, groups_nil]
      show decW false [] [] = []
      rw [decW_nil, validL_nil]
    · exact (back_groups _ (allWhole_valid l) hv).1
set_option maxHeartbeats 2000000 in
theorem law_WordBack (s : ByteArray) (hss : s.size ≤ maxLen) (w : World) (hE : Env w) :
    Calls Tryd.prog 5 #[.string s] w fun e w' => e = .returned (.bool true) ∧ Below w.heap.size w w' := by
  have HE := hide hE
  clear hE
  rcases Nat.lt_or_ge 2000 s.size with hqs | hs
  · have HDs : Hid (decide (s.size ≤ 2000) = false) := decide_eq_false (by omega)
    go_enter Tryd.func5, Tryd.ntmps5
    go_wp2_with fail
    refine (short5_any s _ hss).mono ?_
    rintro e w1 ⟨rfl, rfl⟩
    rw [HDs.out]
    go_wp2_with fail
    refine (live5_any _ HE.out).mono ?_
    rintro e w1 ⟨rfl, hb1⟩
    go_wp2_with fail
    go_ret
    exact ⟨rfl, hb1⟩
  have HDs : Hid (decide (s.size ≤ 2000) = true) := decide_eq_true hs
  obtain ⟨t, ht⟩ : ∃ t, t = str (encodeL s.data.toList) := ⟨_, rfl⟩
  have zt : t.size ≤ 400000 := by rw [ht, str_size]; have := encodeL_length s.data.toList; rw [toList_length] at this; omega
  have htl : t.data.toList = encodeL s.data.toList := by rw [ht, str_toList]
  have HT := hide ht
  clear ht
  have zv := validL_length s.data.toList
  rw [toList_length] at zv
  obtain ⟨v, hv⟩ : ∃ v, v = str (validL s.data.toList) := ⟨_, rfl⟩
  have HV := hide hv
  have HSG : Hid (∀ (j : Nat) (h : j < t.size), 32 ≤ (t[j]'h).toNat ∧ (t[j]'h).toNat ≤ 126) := hide (fun j h => by
    have hm : t[j]'h ∈ t.data.toList := by rw [← Array.mem_def]; exact Array.getElem_mem (by exact h)
    rw [htl] at hm
    exact encodeL_signs _ _ hm)
  have HD : Hid (str (decW false [] t.data.toList) = v) := hide (by rw [htl, hv, decode_encode])
  clear htl zv hv
  go_enter Tryd.func5, Tryd.ntmps5
  go_wp2_with fail
  refine (short5_any s _ hss).mono ?_
  rintro e w1 ⟨rfl, rfl⟩
  rw [HDs.out]
  go_wp2_with fail
  obtain ⟨_, m, hm⟩ := HE.out
  have HM := hide hm
  clear hm
  refine (wordEncode_any s m _ (by omega) HM.out).mono ?_
  rintro e w1 ⟨rfl, hb1⟩
  rw [← HT.out]
  go_wp2_with fail
  go_loop [4] (fun i => ∃ k : Nat, k ≤ t.size ∧ i = .int .i64 k) (fun i => t.size - (intOf i).toNat)
  case atStart => exact ⟨0, Nat.zero_le _, rfl⟩
  case round =>
    obtain ⟨k, hk, rfl⟩ := hrel
    by_cases hlt : k < t.size
    · obtain ⟨h1, h2⟩ := HSG.out k hlt
      have t0 : decide ((t[k].toNat : Int) < 32) = false := decide_eq_false (by omega)
      have t1 : decide ((126 : Int) < t[k].toNat) = false := decide_eq_false (by omega)
      clear h1 h2
      go_wp2_with fail
      go_round
      case rel => exact ⟨k + 1, by omega, by go_num⟩
      case measure => simp [intOf]; omega
    · have hlt2 := hlt
      go_wp2_with fail
      refine (wordDecode_any t _ (by omega) (HE.out.kept hb1).1).mono ?_
      rintro e w2 ⟨rfl, hb2⟩
      rw [HD.out]
      have k2 := hb1.trans (hb2.mono hb1.size)
      go_wp2_with fail
      refine (valid_any s _ (by omega)).mono ?_
      rintro e w3 ⟨rfl, hb3⟩
      rw [← HV.out]
      have k3 := k2.trans (hb3.mono k2.size)
      go_wp2_with fail
      refine (live5_any _ (HE.out.kept k3)).mono ?_
      rintro e wl ⟨rfl, hbl⟩
      go_wp2_with fail
      go_ret
      exact ⟨rfl, k3.trans (hbl.mono k3.size)⟩
end Go.Proofs.YtgkpennhpggaaaaDoor
