/- WALK of the law ParamMain. No statement is proved here. -/
import Derived.Test.YtienjpelmbldpaaGreatDoorRef07S
namespace Go.Proofs.YtienjpelmbldpaaGreatDoor
open Go.RowKit
set_option linter.unusedVariables false
set_option linter.unusedSimpArgs false
set_option maxRecDepth 100000
theorem pc_plain (l : List UInt8) : ∀ cur, (∀ c ∈ l, c ≠ 59 ∧ c ≠ 34) → pcL cur l = [cur ++ l] := by
  induction l with
  | nil => intro cur _; rw [pcL_nil, List.append_nil]
  | cons c r ih =>
    intro cur h
    obtain ⟨h1, h2⟩ := h c (List.mem_cons_self ..)
    rw [pcL_other cur h2 h1, ih _ (fun x hx => h x (List.mem_cons_of_mem _ hx)), List.append_assoc]; rfl
theorem pc_join (l more : List UInt8) : ∀ cur, (∀ c ∈ l, c ≠ 59 ∧ c ≠ 34) → pcL cur (l ++ 59 :: more) = (cur ++ l) :: pcL [] more := by
  induction l with
  | nil => intro cur _; rw [List.nil_append, pcL_semi, List.append_nil]
  | cons c r ih =>
    intro cur h
    obtain ⟨h1, h2⟩ := h c (List.mem_cons_self ..)
    rw [List.cons_append, pcL_other cur h2 h1, ih _ (fun x hx => h x (List.mem_cons_of_mem _ hx)), List.append_assoc]; rfl
/-- the parameters that a text behind a `;` has -/
def moreL (more : List UInt8) : List ParL := outL (rawsL (pcL [] more)).2.1 (rawsL (pcL [] more)).1
theorem pars_plain {l : List UInt8} (h : ∀ c ∈ l, c ≠ 59 ∧ c ≠ 34) : parsP l = (tsL l, []) := by
  unfold parsP
  rw [pc_plain l [] h]
  rfl
theorem pars_join {l : List UInt8} (more : List UInt8) (h : ∀ c ∈ l, c ≠ 59 ∧ c ≠ 34) : parsP (l ++ 59 :: more) = (tsL l, moreL more) := by
  unfold parsP moreL
  rw [pc_join l more [] h]
  rfl
theorem rawFold_count (ps : List (List UInt8)) : ∀ st : RawSt, (ps.foldl rawStep st).1.length ≤ st.1.length + ps.length := by
  induction ps with
  | nil => exact fun st => Nat.le_refl _
  | cons p ps ih =>
    intro st
    have h1 := ih (rawStep st p)
    have h2 : (rawStep st p).1.length ≤ st.1.length + 1 := by
      unfold rawStep
      split
      · omega
      · split
        · show st.1.length ≤ _; omega
        · show (st.1 ++ [_]).length ≤ _; rw [List.length_append]; simp
    rw [List.foldl_cons, List.length_cons]; omega
theorem wPs_count (ps : List (List UInt8)) : ps.length ≤ wPs ps := by
  induction ps with
  | nil => exact Nat.zero_le _
  | cons p ps ih => rw [wPs_cons, List.length_cons]; omega
theorem moreL_length (more : List UInt8) : (moreL more).length ≤ more.length + 1 := by
  have h0 := pcL_sizes more.length more [] (Nat.le_refl _)
  have h1 := rawFold_count (pcL [] more) raw0
  have h2 := wPs_count (pcL [] more)
  have h3 : (moreL more).length ≤ (rawsL (pcL [] more)).1.length := List.length_filterMap_le _ _
  simp only [List.length_nil] at h0
  have h4 : raw0.1.length = 0 := rfl
  unfold rawsL at h3
  omega
theorem tsL_x : tsL [120] = [120] := by decide +kernel
set_option maxHeartbeats 8000000 in
theorem law_ParamMain (s : ByteArray) (hss : s.size ≤ maxLen) (more : ByteArray) (hmm : more.size ≤ maxLen) (w : World) (hE : EnvP w) :
    Calls Tryz.prog 7 #[.string s, .string more] w fun e w' => e = .returned (.bool true) ∧ Below w.heap.size w w' := by
  have HE := hide hE
  clear hE hss hmm
  rcases Nat.lt_or_ge 1500 s.size with hq | hs
  · have HD : Hid (decide (s.size ≤ 1500) = false) := hide (decide_eq_false (by omega))
    clear hq
    go_enter Tryz.func7, Tryz.ntmps7
    go_wp2_with fail
    refine (short07_any s _).mono ?_
    rintro e wq ⟨rfl, rfl⟩
    rw [HD.out]
    go_wp2_with fail
    refine (live07_any _ HE.out).mono ?_
    rintro e wl ⟨rfl, hbl⟩
    go_wp2_with fail
    go_ret
    exact ⟨rfl, hbl⟩
  have HD : Hid (decide (s.size ≤ 1500) = true) := hide (decide_eq_true hs)
  rcases Nat.lt_or_ge 1500 more.size with hq | hr
  · have HD2 : Hid (decide (more.size ≤ 1500) = false) := hide (decide_eq_false (by omega))
    clear hq
    go_enter Tryz.func7, Tryz.ntmps7
    go_wp2_with fail
    refine (short07_any s _).mono ?_
    rintro e wq ⟨rfl, rfl⟩
    rw [HD.out]
    go_wp2_with fail
    refine (short07_any more _).mono ?_
    rintro e wq ⟨rfl, rfl⟩
    rw [HD2.out]
    go_wp2_with fail
    refine (live07_any _ HE.out).mono ?_
    rintro e wl ⟨rfl, hbl⟩
    go_wp2_with fail
    go_ret
    exact ⟨rfl, hbl⟩
  have HD2 : Hid (decide (more.size ≤ 1500) = true) := hide (decide_eq_true hr)
  obtain ⟨T, hT⟩ : ∃ T, T = str (tsL s.data.toList) := ⟨_, rfl⟩
  obtain ⟨L, hL⟩ : ∃ L, L = moreL more.data.toList := ⟨_, rfl⟩
  have hLn : L.length ≤ 1048576 := by
    have := moreL_length more.data.toList
    rw [toList_length] at this
    rw [hL]; omega
  have HLN := hide hLn
  have HP1 : Hid ((∀ c ∈ s.data.toList, c ≠ 59 ∧ c ≠ 34) → ∀ w, EnvP w → Calls Tryz.prog 10 #[.string s] w fun e w' => ∃ v, e = .returned (.tuple #[.string T, v]) ∧ PBuf w.heap.size v [] w w') := hide (fun h w hE => by
    have := parse07 s w (by omega) hE
    rw [pars_plain h, ← hT] at this
    exact this)
  have HP2 : Hid ((∀ c ∈ s.data.toList, c ≠ 59 ∧ c ≠ 34) → ∀ w, EnvP w → Calls Tryz.prog 10 #[.string (s ++ ⟨#[59]⟩ ++ more)] w fun e w' => ∃ v, e = .returned (.tuple #[.string T, v]) ∧ PBuf w.heap.size v L w w') := hide (fun h w hE => by
    have := parse07 (s ++ ⟨#[59]⟩ ++ more) w (by
      rw [ByteArray.size_append, ByteArray.size_append]
      have : (⟨#[59]⟩ : ByteArray).size = 1 := rfl
      omega) hE
    rw [show (s ++ ⟨#[59]⟩ ++ more : ByteArray).data.toList = s.data.toList ++ 59 :: more.data.toList by
      simp [ByteArray.data_append], pars_join _ h, ← hT, ← hL] at this
    exact this)
  have HP3 : Hid (∀ w, EnvP w → Calls Tryz.prog 10 #[.string ((⟨#[120, 59]⟩ : ByteArray) ++ more)] w fun e w' => ∃ v, e = .returned (.tuple #[.string ⟨#[120]⟩, v]) ∧ PBuf w.heap.size v L w w') := hide (fun w hE => by
    have := parse07 ((⟨#[120, 59]⟩ : ByteArray) ++ more) w (by
      rw [ByteArray.size_append]
      have : (⟨#[120, 59]⟩ : ByteArray).size = 2 := rfl
      omega) hE
    rw [show ((⟨#[120, 59]⟩ : ByteArray) ++ more).data.toList = [120] ++ 59 :: more.data.toList by
      simp [ByteArray.data_append], pars_join _ (by decide), tsL_x, ← hL] at this
    exact this)
  have HTZ : T.size ≤ s.size := by rw [hT, str_size, ← toList_length]; exact tsL_length _
  clear hT hL hLn
  go_enter Tryz.func7, Tryz.ntmps7
  go_wp2_with fail
  refine (short07_any s _).mono ?_
  rintro e wq ⟨rfl, rfl⟩
  rw [HD.out]
  go_wp2_with fail
  refine (short07_any more _).mono ?_
  rintro e wq ⟨rfl, rfl⟩
  rw [HD2.out]
  go_wp2_with fail
  go_loopw [5] (fun iv wr => ∃ k : Nat, k ≤ s.size ∧ iv = .int .i64 k ∧ Hid (∀ c ∈ s.data.toList.take k, c ≠ 59 ∧ c ≠ 34) ∧ Hid (wr = w)) (fun iv _ => s.size - (intOf iv).toNat)
  case atStart => exact ⟨0, Nat.zero_le _, rfl, hide (by simp), hide rfl⟩
  case round =>
    obtain ⟨k, hk, rfl, HN, HW⟩ := hrel
    obtain rfl := HW.out
    by_cases hlt : k < s.size
    · by_cases h59 : s[k] = 59
      · have t0 : ((s[k].toNat : Int) == 59) = true := tT 59 h59 (by omega)
        clear h59
        go_wp2_with fail
        refine (live07_any _ HE.out).mono ?_
        rintro e wl ⟨rfl, hbl⟩
        go_wp2_with fail
        go_ret
        exact ⟨rfl, hbl⟩
      · have t0 : ((s[k].toNat : Int) == 59) = false := tF 59 h59 (by omega)
        by_cases h34 : s[k] = 34
        · have t1 : ((s[k].toNat : Int) == 34) = true := tT 34 h34 (by omega)
          clear h59 h34
          go_wp2_with fail
          refine (live07_any _ HE.out).mono ?_
          rintro e wl ⟨rfl, hbl⟩
          go_wp2_with fail
          go_ret
          exact ⟨rfl, hbl⟩
        · have t1 : ((s[k].toNat : Int) == 34) = false := tF 34 h34 (by omega)
          have HN2 : Hid (∀ c ∈ s.data.toList.take (k + 1), c ≠ 59 ∧ c ≠ 34) := hide (by
            intro c hc
            rw [take_snoc s k hlt, List.mem_append, List.mem_singleton] at hc
            rcases hc with hc | rfl
            · exact HN.out c hc
            · exact ⟨h59, h34⟩)
          clear h59 h34
          go_wp2_with fail
          go_roundw
          case rel => exact ⟨k + 1, by omega, by go_num, HN2, by first | exact trivial | exact hide rfl⟩
          case measure => simp [intOf]; omega
    · have HALL : Hid (∀ c ∈ s.data.toList, c ≠ 59 ∧ c ≠ 34) := hide (by
        have := HN.out
        rwa [List.take_of_length_le (by rw [toList_length]; omega)] at this)
      go_wp2_with fail
      refine (HP1.out HALL.out _ HE.out).mono ?_
      rintro e w1 ⟨v1, rfl, hb1⟩
      obtain ⟨A1, c1, rfl⟩ := hb1.slice_len
      have K1 := hide hb1.below
      have HE1 := hide (HE.out.kept hb1.below)
      clear hb1
      go_wp2_with fail
      refine (HP2.out HALL.out _ HE1.out).mono ?_
      rintro e w2 ⟨v2, rfl, hb2⟩
      have K2 := hide (K1.out.trans (hb2.below.mono K1.out.size))
      have HE2 := hide (HE1.out.kept hb2.below)
      clear hb2
      go_wp2_with fail
      refine (HP3.out _ HE2.out).mono ?_
      rintro e w3 ⟨v3, rfl, hb3⟩
      have K3 := hide (K2.out.trans (hb3.below.mono K2.out.size))
      have HE3 := hide (HE2.out.kept hb3.below)
      have F3 := hide hb3.in
      clear hb3
      go_wp2_with fail
      refine (HP2.out HALL.out _ HE3.out).mono ?_
      rintro e w4 ⟨v4, rfl, hb4⟩
      have K4 := hide (K3.out.trans (hb4.below.mono K3.out.size))
      have HE4 := hide (HE3.out.kept hb4.below)
      have F34 := hide (F3.out.kept hb4.below)
      have F4 := hide hb4.in
      clear hb4
      go_wp2_with fail
      refine (same07_any _ _ L L _ F34.out F4.out HLN.out).mono ?_
      rintro e w5 ⟨rfl, hb5⟩
      rw [show decide (L = L) = true from decide_eq_true rfl]
      have K5 := hide (K4.out.trans (hb5.mono K4.out.size))
      have HE5 := hide (HE4.out.kept hb5)
      clear hb5
      go_wp2_with fail
      refine (live07_any _ HE5.out).mono ?_
      rintro e w6 ⟨rfl, hb6⟩
      have K6 := hide (K5.out.trans (hb6.mono K5.out.size))
      clear hb6
      go_wp2_with fail
      go_ret
      exact ⟨rfl, K6.out⟩
end Go.Proofs.YtienjpelmbldpaaGreatDoor
