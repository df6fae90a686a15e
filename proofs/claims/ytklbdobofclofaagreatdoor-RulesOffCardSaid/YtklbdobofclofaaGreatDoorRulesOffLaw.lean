/- WALK of the law RulesOff. No statement is proved here. Own work of the verifier. -/
import Derived.Test.YtklbdobofclofaaGreatDoorRulesL0
namespace Go.Proofs.YtklbdobofclofaaGreatDoor
open Go.RowKit
set_option linter.unusedVariables false
set_option linter.unusedSimpArgs false
set_option maxRecDepth 100000
set_option maxHeartbeats 4000000 in
theorem law_RulesOff (e : ByteArray) (he : e.size ≤ maxLen) (v : ByteArray) (hv : v.size ≤ maxLen) (w : World) (hE : EnvR w) :
    Calls Tryz.prog 7 #[.string e, .string v] w fun x w' => x = .returned (.bool true) ∧ Below w.heap.size w w' := by
  have HE0 := hide hE
  have HB0 : Hid (Below w.heap.size w w) := hide (Below.refl _ _)
  clear hE
  unfold maxLen at he hv
  by_cases h1 : v.size ≤ 1000
  · have g1 : decide ((1000 : Int) < v.size) = false := decide_eq_false (by omega)
    by_cases h2 : e.size ≤ 1000
    · have g2 : decide ((1000 : Int) < e.size) = false := decide_eq_false (by omega)
      have HS := hide (show v.size ≤ 10000 by omega)
      clear h1 h2
      go_enter Tryz.func7, Tryz.ntmps7
      go_wp2_with fail
      refine (value_any false false false none [] 0 e ⟨#[115, 114, 99]⟩ v _ (FilesIn.nil _) (by decide) HS.out HE0.out.1 HE0.out.2.1 HE0.out.2.2).mono ?_
      rintro x w1 ⟨rfl, hb⟩
      rw [show valV (valL false false [] e.data.toList (⟨#[115, 114, 99]⟩ : ByteArray).data.toList v.data.toList) = .tuple #[.string ⟨#[]⟩, .bool false] by rw [show valL false false [] e.data.toList (⟨#[115, 114, 99]⟩ : ByteArray).data.toList v.data.toList = none from val_off_src _ _]; rfl]
      have HE1 := hide (HE0.out.kept hb)
      have HB1 := hide (HB0.out.trans (hb.mono HB0.out.size))
      clear hb
      go_wp2_with fail
      refine (value_any false false false none [] 0 e ⟨#[115, 116, 121, 108, 101]⟩ v _ (FilesIn.nil _) (by decide) HS.out HE1.out.1 HE1.out.2.1 HE1.out.2.2).mono ?_
      rintro x w2 ⟨rfl, hb⟩
      rw [show valV (valL false false [] e.data.toList (⟨#[115, 116, 121, 108, 101]⟩ : ByteArray).data.toList v.data.toList) = .tuple #[.string ⟨#[]⟩, .bool false] by rw [show valL false false [] e.data.toList (⟨#[115, 116, 121, 108, 101]⟩ : ByteArray).data.toList v.data.toList = none from val_off_style _ _]; rfl]
      have HE2 := hide (HE1.out.kept hb)
      have HB2 := hide (HB1.out.trans (hb.mono HB1.out.size))
      clear hb
      go_wp2_with fail
      refine (value_any true true false none [] 0 e ⟨#[115, 114, 99, 115, 101, 116]⟩ v _ (FilesIn.nil _) (by decide) HS.out HE2.out.1 HE2.out.2.1 HE2.out.2.2).mono ?_
      rintro x w3 ⟨rfl, hb⟩
      rw [show valV (valL true true [] e.data.toList (⟨#[115, 114, 99, 115, 101, 116]⟩ : ByteArray).data.toList v.data.toList) = .tuple #[.string ⟨#[]⟩, .bool false] by rw [show valL true true [] e.data.toList (⟨#[115, 114, 99, 115, 101, 116]⟩ : ByteArray).data.toList v.data.toList = none from val_off_set _ _]; rfl]
      have HE3 := hide (HE2.out.kept hb)
      have HB3 := hide (HB2.out.trans (hb.mono HB2.out.size))
      clear hb
      go_wp2_with fail
      refine (live18_any _ HE3.out).mono ?_
      rintro x w9 ⟨rfl, hb⟩
      have HB9 := hide (HB3.out.trans (hb.mono HB3.out.size))
      clear hb
      go_wp2_with fail
      go_ret
      exact ⟨rfl, HB9.out⟩
    · have g2 : decide ((1000 : Int) < e.size) = true := decide_eq_true (by omega)
      go_enter Tryz.func7, Tryz.ntmps7
      go_wp2_with fail
      refine (live18_any _ HE0.out).mono ?_
      rintro x w9 ⟨rfl, hb⟩
      have HB9 := hide (HB0.out.trans (hb.mono HB0.out.size))
      clear hb
      go_wp2_with fail
      go_ret
      exact ⟨rfl, HB9.out⟩
  · have g1 : decide ((1000 : Int) < v.size) = true := decide_eq_true (by omega)
    go_enter Tryz.func7, Tryz.ntmps7
    go_wp2_with fail
    refine (live18_any _ HE0.out).mono ?_
    rintro x w9 ⟨rfl, hb⟩
    have HB9 := hide (HB0.out.trans (hb.mono HB0.out.size))
    clear hb
    go_wp2_with fail
    go_ret
    exact ⟨rfl, HB9.out⟩
end Go.Proofs.YtklbdobofclofaaGreatDoor
