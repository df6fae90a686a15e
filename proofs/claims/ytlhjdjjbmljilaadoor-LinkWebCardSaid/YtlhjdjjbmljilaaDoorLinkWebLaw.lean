/- WALK of the law LinkWeb. No statement is proved here. Own work of the verifier. -/
import Derived.Test.YtlhjdjjbmljilaaDoorLinkL0
namespace Go.Proofs.YtlhjdjjbmljilaaDoor
open Go.RowKit
set_option linter.unusedVariables false
set_option linter.unusedSimpArgs false
set_option maxRecDepth 100000
theorem schV_none {l : List UInt8} (h : schL l = none) : schV l = .tuple #[.string ⟨#[]⟩, .bool false] := by unfold schV; rw [h]
theorem schV_some {l n b : List UInt8} (h : schL l = some (n, b)) : schV l = .tuple #[.string (str n), .bool true] := by unfold schV; rw [h]
set_option maxHeartbeats 2000000 in
theorem law_LinkWeb (s : ByteArray) (hss : s.size ≤ maxLen) (w : World) (hE : EnvU w) :
    Calls Tryd.prog 5 #[.string s] w fun e w' => e = .returned (.bool true) ∧ Below w.heap.size w w' := by
  rcases Nat.lt_or_ge 3000 s.size with hqs | hs
  · have HDs : Hid (decide (s.size ≤ 3000) = false) := decide_eq_false (by omega)
    have HE := hide hE
    clear hE
    go_enter Tryd.func5, Tryd.ntmps5
    go_wp2_with fail
    refine (short16_any s _ hss).mono ?_
    rintro e w1 ⟨rfl, rfl⟩
    rw [HDs.out]
    go_wp2_with fail
    refine (live16_any _ HE.out).mono ?_
    rintro e w1 ⟨rfl, hb1⟩
    go_wp2_with fail
    go_ret
    exact ⟨rfl, hb1⟩
  have HDs : Hid (decide (s.size ≤ 3000) = true) := decide_eq_true hs
  obtain ⟨C, hC⟩ : ∃ C, C = str (lkClean s.data.toList) := ⟨_, rfl⟩
  have hCs : C.size ≤ 3000 := by rw [hC]; exact Nat.le_trans (clean_size s) hs
  have hCl : C.data.toList = lkClean s.data.toList := by rw [hC, str_toList]
  have HC := hide hC
  have HE := hide hE
  clear hE
  cases hc : schL (lkClean s.data.toList) with
  | none =>
    have HS := hide (schV_none hc)
    have HK : Hid (((lkKind (lkClean s.data.toList) : Nat) : Int) = 0) := hide (by rw [lkKind_none hc]; rfl)
    clear hc hC hCl
    go_enter Tryd.func5, Tryd.ntmps5
    go_wp2_with fail
    refine (short16_any s _ hss).mono ?_
    rintro e w1 ⟨rfl, rfl⟩
    rw [HDs.out]
    go_wp2_with fail
    refine (linkScheme_any s _ (by omega) HE.out).mono ?_
    rintro e w1_ ⟨rfl, hb⟩
    have HE1 := hide (HE.out.kept hb)
    have HB1 := hide hb
    clear hb
    rw [HS.out]
    go_wp2_with fail
    refine (linkClean_any s _ (by omega) HE1.out).mono ?_
    rintro e w2_ ⟨rfl, hb⟩
    have HE2 := hide (HE1.out.kept hb)
    have HB2 := hide (HB1.out.trans (hb.mono HB1.out.size))
    clear hb
    rw [← HC.out]
    go_wp2_with fail
    refine (linkKind_any s _ (by omega) HE2.out).mono ?_
    rintro e w3_ ⟨rfl, hb⟩
    have HE3 := hide (HE2.out.kept hb)
    have HB3 := hide (HB2.out.trans (hb.mono HB2.out.size))
    clear hb
    rw [HK.out]
    go_wp2_with fail
    refine (live16_any _ HE3.out).mono ?_
    rintro e w4_ ⟨rfl, hb⟩
    have HE4 := hide (HE3.out.kept hb)
    have HB4 := hide (HB3.out.trans (hb.mono HB3.out.size))
    clear hb
    go_wp2_with fail
    go_ret
    exact ⟨rfl, HB4.out⟩
  | some p =>
    obtain ⟨n, b⟩ := p
    obtain ⟨N, hN⟩ : ∃ N : ByteArray, N = str n := ⟨_, rfl⟩
    have hNl : N.toList = n := by rw [hN, str_list]
    have HS : Hid (schV (lkClean s.data.toList) = .tuple #[.string N, .bool true]) := hide (by rw [schV_some hc, hN])
    have hk := lkKind_some hc
    have hp := lkKindOf_pos n b
    obtain ⟨m, hm, hnm, _, _⟩ := schL_some hc
    by_cases hw : lkKindOf n b = 1 ∨ lkKindOf n b = 2
    · obtain ⟨hwk, c, r, hb⟩ := lkKindOf_web hw
      have hNs : N.size = m.length := by rw [hN, str_size, hnm, lowL_length]
      have hCz : C.size = m.length + 4 + r.length := by
        rw [← toList_length, hCl, hm, hb, List.length_append]; simp; omega
      have HX : Hid (C.extract N.size (N.size + 3) = ⟨#[58, 47, 47]⟩) := hide (by
        apply ext_list
        rw [extract_mid, hCl, hm, hb, hNs, List.drop_left]; rfl)
      have g1 : N.size + 3 < C.size := by omega
      have q1 : decide ((N.size : Int) + 3 < (C.size : Int)) = true := decide_eq_true (by omega)
      have q2 : ((N.size : Int) + 3).toNat = N.size + 3 := by omega
      rcases hwk with ⟨hk1, hn1⟩ | ⟨hk1, hn1⟩
      · have HK : Hid (((lkKind (lkClean s.data.toList) : Nat) : Int) = 1) := hide (by rw [hk, hk1]; rfl)
        have t1 : (N.toList == [104, 116, 116, 112]) = true := by rw [hNl, hn1]; rfl
        clear hc hC hCl hN hNl hk hp hm hnm hw hb hNs hCz hk1 hn1
        go_enter Tryd.func5, Tryd.ntmps5
        go_wp2_with fail
        refine (short16_any s _ hss).mono ?_
        rintro e w1 ⟨rfl, rfl⟩
        rw [HDs.out]
        go_wp2_with fail
        refine (linkScheme_any s _ (by omega) HE.out).mono ?_
        rintro e w1_ ⟨rfl, hb⟩
        have HE1 := hide (HE.out.kept hb)
        have HB1 := hide hb
        clear hb
        rw [HS.out]
        go_wp2_with fail
        refine (linkClean_any s _ (by omega) HE1.out).mono ?_
        rintro e w2_ ⟨rfl, hb⟩
        have HE2 := hide (HE1.out.kept hb)
        have HB2 := hide (HB1.out.trans (hb.mono HB1.out.size))
        clear hb
        rw [← HC.out]
        go_wp2_with fail
        refine (linkKind_any s _ (by omega) HE2.out).mono ?_
        rintro e w3_ ⟨rfl, hb⟩
        have HE3 := hide (HE2.out.kept hb)
        have HB3 := hide (HB2.out.trans (hb.mono HB2.out.size))
        clear hb
        rw [HK.out]
        have hx := HX.out
        go_wp2_with fail
        refine (live16_any _ HE3.out).mono ?_
        rintro e w4_ ⟨rfl, hb⟩
        have HE4 := hide (HE3.out.kept hb)
        have HB4 := hide (HB3.out.trans (hb.mono HB3.out.size))
        clear hb
        go_wp2_with fail
        go_ret
        exact ⟨rfl, HB4.out⟩
      · have HK : Hid (((lkKind (lkClean s.data.toList) : Nat) : Int) = 2) := hide (by rw [hk, hk1]; rfl)
        have t1 : (N.toList == [104, 116, 116, 112]) = false := by rw [hNl, hn1]; rfl
        clear hc hC hCl hN hNl hk hp hm hnm hw hb hNs hCz hk1 hn1
        go_enter Tryd.func5, Tryd.ntmps5
        go_wp2_with fail
        refine (short16_any s _ hss).mono ?_
        rintro e w1 ⟨rfl, rfl⟩
        rw [HDs.out]
        go_wp2_with fail
        refine (linkScheme_any s _ (by omega) HE.out).mono ?_
        rintro e w1_ ⟨rfl, hb⟩
        have HE1 := hide (HE.out.kept hb)
        have HB1 := hide hb
        clear hb
        rw [HS.out]
        go_wp2_with fail
        refine (linkClean_any s _ (by omega) HE1.out).mono ?_
        rintro e w2_ ⟨rfl, hb⟩
        have HE2 := hide (HE1.out.kept hb)
        have HB2 := hide (HB1.out.trans (hb.mono HB1.out.size))
        clear hb
        rw [← HC.out]
        go_wp2_with fail
        refine (linkKind_any s _ (by omega) HE2.out).mono ?_
        rintro e w3_ ⟨rfl, hb⟩
        have HE3 := hide (HE2.out.kept hb)
        have HB3 := hide (HB2.out.trans (hb.mono HB2.out.size))
        clear hb
        rw [HK.out]
        have hx := HX.out
        go_wp2_with fail
        refine (live16_any _ HE3.out).mono ?_
        rintro e w4_ ⟨rfl, hb⟩
        have HE4 := hide (HE3.out.kept hb)
        have HB4 := hide (HB3.out.trans (hb.mono HB3.out.size))
        clear hb
        go_wp2_with fail
        go_ret
        exact ⟨rfl, HB4.out⟩
    · obtain ⟨K, hK⟩ : ∃ K : Nat, lkKind (lkClean s.data.toList) = K := ⟨_, rfl⟩
      have k0 : 1 ≤ K := by rw [← hK, hk]; exact hp.1
      have k1 : ¬ K = 1 := by rw [← hK, hk]; exact fun e => hw (.inl e)
      have k2 : ¬ K = 2 := by rw [← hK, hk]; exact fun e => hw (.inr e)
      have a0 : ((K : Int) == 0) = false := beq_eq_false_iff_ne.2 (by omega)
      have a1 : ((K : Int) == 1) = false := beq_eq_false_iff_ne.2 (by omega)
      have a2 : ((K : Int) == 2) = false := beq_eq_false_iff_ne.2 (by omega)
      have b1 : ((K : Int) != 1) = true := by rw [bne, a1]; rfl
      have b2 : ((K : Int) != 2) = true := by rw [bne, a2]; rfl
      have HK := hide hK
      clear hc hC hCl hN hNl hk hp hm hnm hw k0 k1 k2 hK
      go_enter Tryd.func5, Tryd.ntmps5
      go_wp2_with fail
      refine (short16_any s _ hss).mono ?_
      rintro e w1 ⟨rfl, rfl⟩
      rw [HDs.out]
      go_wp2_with fail
      refine (linkScheme_any s _ (by omega) HE.out).mono ?_
      rintro e w1_ ⟨rfl, hb⟩
      have HE1 := hide (HE.out.kept hb)
      have HB1 := hide hb
      clear hb
      rw [HS.out]
      go_wp2_with fail
      refine (linkClean_any s _ (by omega) HE1.out).mono ?_
      rintro e w2_ ⟨rfl, hb⟩
      have HE2 := hide (HE1.out.kept hb)
      have HB2 := hide (HB1.out.trans (hb.mono HB1.out.size))
      clear hb
      rw [← HC.out]
      go_wp2_with fail
      refine (linkKind_any s _ (by omega) HE2.out).mono ?_
      rintro e w3_ ⟨rfl, hb⟩
      have HE3 := hide (HE2.out.kept hb)
      have HB3 := hide (HB2.out.trans (hb.mono HB2.out.size))
      clear hb
      rw [HK.out]
      go_wp2_with fail
      refine (live16_any _ HE3.out).mono ?_
      rintro e w4_ ⟨rfl, hb⟩
      have HE4 := hide (HE3.out.kept hb)
      have HB4 := hide (HB3.out.trans (hb.mono HB3.out.size))
      clear hb
      go_wp2_with fail
      go_ret
      exact ⟨rfl, HB4.out⟩
end Go.Proofs.YtlhjdjjbmljilaaDoor
