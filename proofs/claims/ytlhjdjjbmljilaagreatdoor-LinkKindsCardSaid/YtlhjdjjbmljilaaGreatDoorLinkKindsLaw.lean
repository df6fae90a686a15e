/- WALK of the law LinkKinds. No statement is proved here. Own work of the verifier. -/
import Derived.Test.YtlhjdjjbmljilaaGreatDoorLinkL0
import Derived.Test.YtlhjdjjbmljilaaGreatDoorRef16M
namespace Go.Proofs.YtlhjdjjbmljilaaGreatDoor
open Go.RowKit
set_option linter.unusedVariables false
set_option linter.unusedSimpArgs false
set_option maxRecDepth 100000
set_option maxHeartbeats 2000000 in
theorem law_LinkKinds (s : ByteArray) (hss : s.size ≤ maxLen) (w : World) (hE : EnvU w) :
    Calls Tryz.prog 3 #[.string s] w fun e w' => e = .returned (.bool true) ∧ Below w.heap.size w w' := by
  rcases Nat.lt_or_ge 3000 s.size with hqs | hs
  · have HDs : Hid (decide (s.size ≤ 3000) = false) := decide_eq_false (by omega)
    have HE := hide hE
    clear hE
    go_enter Tryz.func3, Tryz.ntmps3
    go_wp2_with fail
    refine (short16_any s _ hss).mono ?_
    rintro e w1 ⟨rfl, rfl⟩
    rw [HDs.out]
    go_wp2_with fail
    refine (live16_any _ HE.out).mono ?_
    rintro e w1 ⟨rfl, hb1⟩
    go_wp2_with fail
    go_ret
    exact ⟨rfl, hb1⟩
  have HDs : Hid (decide (s.size ≤ 3000) = true) := decide_eq_true hs
  obtain ⟨N, I, hS⟩ : ∃ (N : ByteArray) (I : Bool), schV (lkClean s.data.toList) = .tuple #[.string N, .bool I] := by
    cases hc : schL (lkClean s.data.toList) with
    | none => exact ⟨_, _, schV_no hc⟩
    | some p => obtain ⟨n, b⟩ := p; exact ⟨_, _, schV_yes hc⟩
  obtain ⟨K, hK⟩ : ∃ K : Nat, lkKind (lkClean s.data.toList) = K := ⟨_, rfl⟩
  obtain ⟨C, hC⟩ : ∃ C, str (lkClean s.data.toList) = C := ⟨_, rfl⟩
  have HS := hide hS
  have HK := hide hK
  have HC := hide hC
  have HE := hide hE
  clear hS hK hC hE
  go_enter Tryz.func3, Tryz.ntmps3
  go_wp2_with fail
  refine (short16_any s _ hss).mono ?_
  rintro e w1 ⟨rfl, rfl⟩
  rw [HDs.out]
  go_wp2_with fail
  refine (linkScheme_any s _ (by omega) HE.out).mono ?_
  rintro e v1 ⟨rfl, hb⟩
  have HE1 := hide (HE.out.kept hb)
  have HB1 := hide hb
  clear hb
  rw [HS.out]
  go_wp2_with fail
  refine (ref16Scheme_any s _ (by omega)).mono ?_
  rintro e v2 ⟨rfl, hb⟩
  have HE2 := hide (HE1.out.kept hb)
  have HB2 := hide (HB1.out.trans (hb.mono HB1.out.size))
  clear hb
  rw [HS.out]
  go_wp2_with fail
  refine (linkClean_any s _ (by omega) HE2.out).mono ?_
  rintro e v3 ⟨rfl, hb⟩
  have HE3 := hide (HE2.out.kept hb)
  have HB3 := hide (HB2.out.trans (hb.mono HB2.out.size))
  clear hb
  rw [HC.out]
  go_wp2_with fail
  refine (ref16Clean_any s _ (by omega)).mono ?_
  rintro e v4 ⟨rfl, hb⟩
  have HE4 := hide (HE3.out.kept hb)
  have HB4 := hide (HB3.out.trans (hb.mono HB3.out.size))
  clear hb
  rw [HC.out]
  go_wp2_with fail
  refine (linkKind_any s _ (by omega) HE4.out).mono ?_
  rintro e v5 ⟨rfl, hb⟩
  have HE5 := hide (HE4.out.kept hb)
  have HB5 := hide (HB4.out.trans (hb.mono HB4.out.size))
  clear hb
  rw [HK.out]
  go_wp2_with fail
  refine (ref16Kind_any s _ (by omega)).mono ?_
  rintro e v6 ⟨rfl, hb⟩
  have HE6 := hide (HE5.out.kept hb)
  have HB6 := hide (HB5.out.trans (hb.mono HB5.out.size))
  clear hb
  rw [HK.out]
  go_wp2_with fail
  refine (live16_any _ HE6.out).mono ?_
  rintro e v7 ⟨rfl, hb⟩
  have HE7 := hide (HE6.out.kept hb)
  have HB7 := hide (HB6.out.trans (hb.mono HB6.out.size))
  clear hb
  go_wp2_with fail
  go_ret
  exact ⟨rfl, HB7.out⟩
end Go.Proofs.YtlhjdjjbmljilaaGreatDoor
