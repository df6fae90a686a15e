/- WALK of the law CssStays. No statement is proved here. Own work of the verifier. -/
import Derived.Test.YtlhjdjjbmljilaaDoorCssL0
namespace Go.Proofs.YtlhjdjjbmljilaaDoor
open Go.RowKit
set_option linter.unusedVariables false
set_option linter.unusedSimpArgs false
set_option maxRecDepth 100000
attribute [local go_sem] eqTwo
theorem quiet_ne (c : UInt8) (h : quietB c = true) : c ≠ 40 ∧ c ≠ 41 ∧ c ≠ 34 ∧ c ≠ 39 ∧ c ≠ 92 ∧ c ≠ 64 ∧ c ≠ 60 ∧ c ≠ 62 ∧ c ≠ 47 ∧ c ≠ 38 ∧ c ≠ 10 :=
  u8_all (p := fun c => quietB c = true → c ≠ 40 ∧ c ≠ 41 ∧ c ≠ 34 ∧ c ≠ 39 ∧ c ≠ 92 ∧ c ≠ 64 ∧ c ≠ 60 ∧ c ≠ 62 ∧ c ≠ 47 ∧ c ≠ 38 ∧ c ≠ 10) (by decide +kernel) c h
set_option maxHeartbeats 4000000 in
theorem law_CssStays (s : ByteArray) (hss : s.size ≤ maxLen) (w : World) (hE : EnvC w) :
    Calls Tryd.prog 9 #[.string s] w fun e w' => e = .returned (.bool true) ∧ Below w.heap.size w w' := by
  rcases Nat.lt_or_ge 3000 s.size with hqs | hls
  · have HDs : Hid (decide (s.size ≤ 3000) = false) := decide_eq_false (by omega)
    have HE := hide hE
    clear hE
    go_enter Tryd.func9, Tryd.ntmps9
    go_wp2_with fail
    refine (short17_any s _ hss).mono ?_
    rintro e w1 ⟨rfl, rfl⟩
    rw [HDs.out]
    go_wp2_with fail
    refine (live17_any _ HE.out).mono ?_
    rintro e w1 ⟨rfl, hb1⟩
    go_wp2_with fail
    go_ret
    exact ⟨rfl, hb1⟩
  have HDs : Hid (decide (s.size ≤ 3000) = true) := decide_eq_true hls
  obtain ⟨C, hC⟩ : ∃ C, C = str (cleanD s.data.toList) := ⟨_, rfl⟩
  have hCl : C.data.toList = cleanD s.data.toList := by rw [hC, str_toList]
  have hCs : C.size ≤ 20000 := by
    have h8 := clean_len s.data.toList
    rw [toList_length] at h8
    rw [hC, str_size]; omega
  have HCC : Hid (str (cleanD C.data.toList) = C) := hide (by rw [hCl, clean_cleanD]; exact hC.symm)
  have HT : Hid (∀ c ∈ C.data.toList, quietB c = true) := hide (by rw [hCl]; exact clean_quiet _)
  have HC := hide hC
  have HE0 := hide hE
  have HB0 : Hid (Below w.heap.size w w) := hide (Below.refl _ _)
  clear hC hCl hE
  go_enter Tryd.func9, Tryd.ntmps9
  go_wp2_with fail
  refine (short17_any s _ hss).mono ?_
  rintro e w1 ⟨rfl, rfl⟩
  rw [HDs.out]
  go_wp2_with fail
  refine (cssClean_any s (by omega) _ HE0.out).mono ?_
  rintro e w1_ ⟨rfl, hb⟩
  have HE1 := hide (HE0.out.kept hb)
  have HB1 := hide (HB0.out.trans (hb.mono HB0.out.size))
  clear hb
  rw [← HC.out]
  go_wp2_with fail
  go_loop [4] (fun i => ∃ k : Nat, k ≤ C.size ∧ i = .int .i64 k) (fun i => C.size - (intOf i).toNat)
  case atStart => exact ⟨0, Nat.zero_le _, rfl⟩
  case round =>
    obtain ⟨k, hk, rfl⟩ := hrel
    by_cases hlt : k < C.size
    · have hm : C[k] ∈ C.data.toList := by rw [← Array.mem_def]; exact Array.getElem_mem (by exact hlt)
      have hc := HT.out _ hm
      obtain ⟨n40, n41, n34, n39, n92, n64, n60, n62, n47, n38, n10⟩ := quiet_ne _ hc
      have s40 := tF 40 n40 (by decide)
      have s41 := tF 41 n41 (by decide)
      have s34 := tF 34 n34 (by decide)
      have s39 := tF 39 n39 (by decide)
      have s92 := tF 92 n92 (by decide)
      have s64 := tF 64 n64 (by decide)
      have s60 := tF 60 n60 (by decide)
      have s62 := tF 62 n62 (by decide)
      have s47 := tF 47 n47 (by decide)
      have s38 := tF 38 n38 (by decide)
      have s10 := tF 10 n10 (by decide)
      clear hm hc n40 n41 n34 n39 n92 n64 n60 n62 n47 n38 n10
      go_wp2_with fail
      go_round
      case rel => exact ⟨k + 1, by omega, by go_num⟩
      case measure => simp [intOf]; omega
    · go_wp2_with fail
      refine (cssClean_any C (by omega) _ HE1.out).mono ?_
      rintro e w2_ ⟨rfl, hb⟩
      have HE2 := hide (HE1.out.kept hb)
      have HB2 := hide (HB1.out.trans (hb.mono HB1.out.size))
      clear hb
      rw [HCC.out]
      go_wp2_with fail
      refine (live17_any _ HE2.out).mono ?_
      rintro e w3_ ⟨rfl, hb⟩
      go_wp2_with fail
      go_ret
      exact ⟨rfl, HB2.out.trans (hb.mono HB2.out.size)⟩
end Go.Proofs.YtlhjdjjbmljilaaDoor
