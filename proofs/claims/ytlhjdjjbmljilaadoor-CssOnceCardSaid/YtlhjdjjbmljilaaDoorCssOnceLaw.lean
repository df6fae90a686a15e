/- WALK of the law CssOnce. No statement is proved here. Own work of the verifier. -/
import Derived.Test.YtlhjdjjbmljilaaDoorCssL0
import Derived.BigQuiet
import Derived.Deep.QuietTactic
namespace Go.Proofs.YtlhjdjjbmljilaaDoor
open Go.RowKit
set_option linter.unusedVariables false
set_option linter.unusedSimpArgs false
set_option maxRecDepth 100000
attribute [local go_sem] eqTwo
theorem once_apart {L : List DeclL} (h : L.Pairwise (fun a b => a.1 ≠ b.1)) {m k : Nat} {g f : DeclL} (hmk : m < k) (hg : L[m]? = some g) (hf : L[k]? = some f) : g.1 ≠ f.1 := by
  obtain ⟨h1, rfl⟩ := List.getElem?_eq_some_iff.1 hg
  obtain ⟨h2, rfl⟩ := List.getElem?_eq_some_iff.1 hf
  exact List.pairwise_iff_getElem.1 h m k h1 h2 hmk
def inB (f : DeclL) (D : List DeclL) (m : Nat) : Bool := decide (f ∈ D.take m)
theorem inB_step {f d : DeclL} {D : List DeclL} {m : Nat} (hd : D[m]? = some d) : inB f D (m + 1) = (inB f D m || decide (f = d)) := by
  unfold inB
  rw [List.take_add_one, hd]
  by_cases h1 : f ∈ D.take m <;> by_cases h2 : f = d <;> simp [h1, h2]
theorem eqF' {a b : List UInt8} (h : a ≠ b) : (a == b) = false := beq_eq_false_iff_ne.2 h
set_option maxHeartbeats 4000000 in
theorem law_CssOnce (s : ByteArray) (hss : s.size ≤ maxLen) (w : World) (hE : EnvC w) :
    Calls Tryd.prog 10 #[.string s] w fun e w' => e = .returned (.bool true) ∧ Below w.heap.size w w' := by
  rcases Nat.lt_or_ge 3000 s.size with hqs | hls
  · have HDs : Hid (decide (s.size ≤ 3000) = false) := decide_eq_false (by omega)
    have HE := hide hE
    clear hE
    go_enter Tryd.func10, Tryd.ntmps10
    go_wp2_with fail
    refine (short17_any s _ hss).mono ?_
    rintro e w1 ⟨rfl, rfl⟩
    rw [HDs.out]
    go_wp2_with fail
    refine (live17_any _ HE.out).mono ?_
    rintro e w1 ⟨rfl, hb1⟩
    go_wp2_with fail
    go_ret
    exact ⟨rfl, hb1⟩
  have HDs : Hid (decide (s.size ≤ 3000) = true) := decide_eq_true hls
  obtain ⟨D, hD⟩ : ∃ D, cutD s.data.toList = D := ⟨_, rfl⟩
  obtain ⟨L, hL⟩ : ∃ L, lastD D = L := ⟨_, rfl⟩
  obtain ⟨C, hC⟩ : ∃ C, C = str (cleanD s.data.toList) := ⟨_, rfl⟩
  have hCl : C.data.toList = cleanD s.data.toList := by rw [hC, str_toList]
  have hCs : C.size ≤ 20000 := by
    have h8 := clean_len s.data.toList
    rw [toList_length] at h8
    rw [hC, str_size]; omega
  have HCL : Hid (cutD C.data.toList = L) := hide (by rw [hCl, cut_clean, hD, hL])
  have hDz : D.length ≤ 1048576 := by
    have h8 := cutD_weight s.data.toList
    rw [hD, toList_length] at h8
    have := declW_len D
    omega
  have hDW : declW D ≤ 3001 := by
    have h8 := cutD_weight s.data.toList
    rw [hD, toList_length] at h8
    omega
  have hsub : L.Sublist D := by rw [← hL]; exact lastD_sub D
  have hLD := hsub.length_le
  have HSF : Hid (∀ f ∈ L, safeD f = true ∧ f ∈ D ∧ f.2.length ≤ 3001) := hide (fun f hf => ⟨by rw [← hL] at hf; exact lastD_safe D f hf, hsub.subset hf, by have := declW_mem (hsub.subset hf); omega⟩)
  have HAP : Hid (L.Pairwise (fun a b => a.1 ≠ b.1)) := hide (by rw [← hL]; exact lastD_apart D)
  have HD := hide hD
  have HC := hide hC
  have tle : decide ((L.length : Int) ≤ D.length) = true := decide_eq_true (by omega)
  have HE0 := hide hE
  have HB0 : Hid (Below w.heap.size w w) := hide (Below.refl _ _)
  clear hD hL hC hCl hsub hDW hE
  go_enter Tryd.func10, Tryd.ntmps10
  go_wp2_with fail
  refine (short17_any s _ hss).mono ?_
  rintro e w1 ⟨rfl, rfl⟩
  rw [HDs.out]
  go_wp2_with fail
  refine (cssClean_any s (by omega) _ HE0.out).mono ?_
  rintro e w1_ ⟨rfl, hb⟩
  have HE1 := hide (HE0.out.kept hb)
  have HB1 := hide (HB0.out.trans (hb.mono HB0.out.size))
  clear hb
  rw [← HC.out]
  go_wp2_with fail
  refine (cssCut_any C _ (by omega)).mono ?_
  rintro e w3 ⟨v3, rfl, hd3⟩
  rw [HCL.out] at hd3
  have K3 := hide (HB1.out.trans (hd3.below.mono HB1.out.size))
  have F3 := hide hd3.in
  obtain ⟨A3, c3, rfl⟩ := hd3.slice_len
  clear hd3
  go_wp2_with fail
  refine (cssCut_any s _ (by omega)).mono ?_
  rintro e w5 ⟨v5, rfl, hd5⟩
  rw [HD.out] at hd5
  have HB5 := hide (K3.out.trans (hd5.below.mono K3.out.size))
  have F4 := hide (F3.out.kept hd5.below)
  have F5 := hide hd5.in
  obtain ⟨A5, c5, rfl⟩ := hd5.slice_len
  have HE5 := hide (HE0.out.kept HB5.out)
  clear hd5
  go_wp2_with fail
  go_loopw [5] (fun i wr => ∃ k : Nat, k ≤ L.length ∧ i = .int .i64 k ∧ Hid (Below w5.heap.size w5 wr)) (fun i _ => L.length - (intOf i).toNat)
  case atStart => exact ⟨0, Nat.zero_le _, rfl, hide (Below.refl _ _)⟩
  case round =>
    obtain ⟨k, hk, rfl, HB⟩ := hrel
    by_cases hlt : k < L.length
    · obtain ⟨f, hf⟩ : ∃ f, L[k]? = some f := ⟨_, List.getElem?_eq_getElem hlt⟩
      have hfm : f ∈ L := List.mem_of_getElem? hf
      obtain ⟨X1, hX1⟩ : ∃ X, X = str f.1 := ⟨_, rfl⟩
      obtain ⟨X2, hX2⟩ : ∃ X, X = str f.2 := ⟨_, rfl⟩
      obtain ⟨a, ha, hc1, hc2⟩ := (F4.out.kept HB.out).at k f hf
      subst ha
      rw [← hX1] at hc1
      rw [← hX2] at hc2
      have hX2z : X2.size ≤ maxLen := by rw [hX2, str_size]; have := (HSF.out f hfm).2.2; unfold maxLen; omega
      have HEr := hide (HE5.out.kept HB.out)
      have HSAFE : Hid (∀ q, Calls Tryd.prog 26 #[.string X1, .string X2] (wr.drewN q) fun e w' => e = .returned (.bool true) ∧ w' = wr.drewN q) := hide (fun q =>
        (cssSafe_any X1 X2 (wr.drewN q) (HEr.out.kept (below_drewN17 wr q)) hX2z).mono fun e w' ⟨he, hw⟩ => ⟨by
          rw [he, hX1, hX2, str_toList, str_toList]
          rw [(HSF.out f hfm).1], hw.symm⟩)
      have HF := hide hf
      have HFM := hide hfm
      have HX1 := hide hX1
      have HX2 := hide hX2
      clear hf hfm hX1 hX2 hX2z
      go_wp2_with fail
      go_quiet ((go_at_call 26; exact Calls.quiet_of_same (HSAFE.out _)))
      have HBq := hide (HB.out.trans ((below_drewN17 wr nq).mono HB.out.size))
      obtain ⟨wq, hwq⟩ : ∃ wq, wr.drewN nq = wq := ⟨_, rfl⟩
      rw [hwq] at HBq ⊢
      clear hwq hc1 hc2
      go_wp2_with fail
      go_loopw [6] (fun j wx => ∃ m : Nat, m ≤ k ∧ j = .int .i64 m ∧ Hid (Below w5.heap.size w5 wx)) (fun j _ => k - (intOf j).toNat)
      case atStart => exact ⟨0, Nat.zero_le _, rfl, HBq⟩
      case round =>
        obtain ⟨m, hm, rfl, HBx⟩ := hrel
        by_cases hmk : m < k
        · obtain ⟨g, hg⟩ : ∃ g, L[m]? = some g := ⟨_, List.getElem?_eq_getElem (by omega)⟩
          obtain ⟨Y1, hY1⟩ : ∃ X, X = str g.1 := ⟨_, rfl⟩
          obtain ⟨b, hb, hd1, hd2⟩ := (F4.out.kept HBx.out).at m g hg
          obtain ⟨b2, hb2, hc1, hc2⟩ := (F4.out.kept HBx.out).at k f HF.out
          injection hb with hb
          subst hb
          injection hb2 with hb2
          subst hb2
          rw [← hY1] at hd1
          rw [← HX1.out] at hc1
          have t2 : (Y1.toList == X1.toList) = false := by
            rw [hY1, HX1.out, bytes_list, bytes_list, str_toList, str_toList]
            exact eqF' (once_apart HAP.out hmk hg HF.out)
          clear hg hY1 hd2 hc2
          have hmL : m < L.length := by omega
          go_wp2_with fail
          go_quiet (fail)
          go_wp2_with fail
          go_roundw
          case rel => exact ⟨m + 1, by omega, by go_num, hide (HBx.out.trans ((below_drewN17 _ nq).mono HBx.out.size))⟩
          case measure => simp [intOf]; omega
        · go_wp2_with fail
          go_loopw [7, 8] (fun b j wy => ∃ m : Nat, m ≤ D.length ∧ j = .int .i64 m ∧ b = .bool (inB f D m) ∧ Hid (Below w5.heap.size w5 wy)) (fun _ j _ => D.length - (intOf j).toNat)
          case atStart => exact ⟨0, Nat.zero_le _, rfl, rfl, HBx⟩
          case round =>
            obtain ⟨p, hp, rfl, rfl, HBy⟩ := hrel
            by_cases hpl : p < D.length
            · obtain ⟨d, hd⟩ : ∃ d, D[p]? = some d := ⟨_, List.getElem?_eq_getElem hpl⟩
              have hst := inB_step (f := f) hd
              cases hin : inB f D p with
              | true =>
                have HN : Hid (inB f D (p + 1) = true) := hide (by rw [hst, hin]; rfl)
                clear hst hin hd
                go_wp2_with fail
                go_quiet (fail)
                go_wp2_with fail
                go_roundw
                case rel => exact ⟨p + 1, by omega, by go_num, by rw [HN.out], hide (HBy.out.trans ((below_drewN17 _ nq).mono HBy.out.size))⟩
                case measure => simp [intOf]; omega
              | false =>
                obtain ⟨b2, hb2, hc1, hc2⟩ := (F4.out.kept HBy.out).at k f HF.out
                injection hb2 with hb2
                subst hb2
                obtain ⟨b, hb, hd1, hd2⟩ := (F5.out.kept HBy.out).at p d hd
                subst hb
                obtain ⟨Y1, hY1⟩ : ∃ X, X = str d.1 := ⟨_, rfl⟩
                obtain ⟨Y2, hY2⟩ : ∃ X, X = str d.2 := ⟨_, rfl⟩
                rw [← HX1.out] at hc1
                rw [← HX2.out] at hc2
                rw [← hY1] at hd1
                rw [← hY2] at hd2
                by_cases he : f = d
                · have e1 : Y1 = X1 := by rw [hY1, HX1.out, he]
                  have e2 : Y2 = X2 := by rw [hY2, HX2.out, he]
                  have HN : Hid (inB f D (p + 1) = true) := hide (by rw [hst, he]; simp)
                  rw [e1] at hd1
                  rw [e2] at hd2
                  clear hst hin hd he hY1 hY2 e1 e2
                  go_wp2_with fail
                  go_quiet (fail)
                  go_wp2_with fail
                  go_roundw
                  case rel => exact ⟨p + 1, by omega, by go_num, by rw [HN.out], hide (HBy.out.trans ((below_drewN17 _ nq).mono HBy.out.size))⟩
                  case measure => simp [intOf]; omega
                · have HN : Hid (inB f D (p + 1) = false) := hide (by rw [hst, hin, decide_eq_false he]; rfl)
                  by_cases he1 : d.1 = f.1
                  · have he2 : d.2 ≠ f.2 := fun e => he (Prod.ext he1.symm e.symm)
                    have e1 : Y1 = X1 := by rw [hY1, HX1.out, he1]
                    have t2 : (Y2.toList == X2.toList) = false := by
                      rw [hY2, HX2.out, bytes_list, bytes_list, str_toList, str_toList]; exact eqF' he2
                    rw [e1] at hd1
                    clear hst hin hd he he1 he2 hY1 hY2 e1
                    go_wp2_with fail
                    go_quiet (fail)
                    go_wp2_with fail
                    go_roundw
                    case rel => exact ⟨p + 1, by omega, by go_num, by rw [HN.out], hide (HBy.out.trans ((below_drewN17 _ nq).mono HBy.out.size))⟩
                    case measure => simp [intOf]; omega
                  · have t2 : (Y1.toList == X1.toList) = false := by
                      rw [hY1, HX1.out, bytes_list, bytes_list, str_toList, str_toList]; exact eqF' he1
                    clear hst hin hd he he1 hY1 hY2
                    go_wp2_with fail
                    go_quiet (fail)
                    go_wp2_with fail
                    go_roundw
                    case rel => exact ⟨p + 1, by omega, by go_num, by rw [HN.out], hide (HBy.out.trans ((below_drewN17 _ nq).mono HBy.out.size))⟩
                    case measure => simp [intOf]; omega
            · have hin : inB f D p = true := by
                unfold inB
                rw [List.take_of_length_le (by omega)]
                exact decide_eq_true (HSF.out f HFM.out).2.1
              rw [hin]
              clear hin
              go_wp2_with fail
              go_roundw
              case rel => exact ⟨k + 1, by omega, by go_num, HBy⟩
              case measure => simp [intOf]; omega
    · have HB6 := hide (HB5.out.trans (HB.out.mono HB5.out.size))
      have HE6 := hide (HE5.out.kept HB.out)
      go_wp2_with fail
      refine (live17_any _ HE6.out).mono ?_
      rintro e w7_ ⟨rfl, hb⟩
      go_wp2_with fail
      go_ret
      exact ⟨rfl, HB6.out.trans (hb.mono HB6.out.size)⟩
end Go.Proofs.YtlhjdjjbmljilaaDoor
