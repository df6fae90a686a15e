/- WALK of the law LinkCase. No statement is proved here. Own work of the verifier. -/
import Derived.Test.YtlhjdjjbmljilaaDoorLinkWebLaw
namespace Go.Proofs.YtlhjdjjbmljilaaDoor
open Go.RowKit
set_option linter.unusedVariables false
set_option linter.unusedSimpArgs false
set_option maxRecDepth 100000
/-- the first k of l large, the others as they are -/
def upAt (l : List UInt8) (k : Nat) : List UInt8 := (l.take k).map lkUp ++ l.drop k
theorem up_case (c : UInt8) : (97 ≤ c.toNat ∧ c.toNat ≤ 122 ∧ (lkUp c).toNat = c.toNat - 32) ∨ ((c.toNat < 97 ∨ (97 ≤ c.toNat ∧ 122 < c.toNat)) ∧ lkUp c = c) :=
  u8_all (p := fun c => (97 ≤ c.toNat ∧ c.toNat ≤ 122 ∧ (lkUp c).toNat = c.toNat - 32) ∨ ((c.toNat < 97 ∨ (97 ≤ c.toNat ∧ 122 < c.toNat)) ∧ lkUp c = c)) (by decide +kernel) c
theorem upAt_length (l : List UInt8) (k : Nat) : (upAt l k).length = l.length := by simp [upAt]; omega
theorem upAt_zero (l : List UInt8) : upAt l 0 = l := by simp [upAt]
theorem upAt_get (l : List UInt8) (k : Nat) (h : k < l.length) (h' : k < (upAt l k).length) : (upAt l k)[k] = l[k] := by
  simp [upAt, Nat.min_eq_left (Nat.le_of_lt h)]
theorem upAt_set (l : List UInt8) (k : Nat) (h : k < l.length) : (upAt l k).set k (lkUp l[k]) = upAt l (k + 1) := by
  have e : ((l.take k).map lkUp).length = k := by simp; omega
  rw [upAt, List.set_append_right _ _ (by omega), e, Nat.sub_self, List.drop_eq_getElem_cons h, List.set_cons_zero, upAt]
  rw [List.take_succ_eq_append_getElem h, List.map_append, List.append_assoc]
  rfl
theorem upAt_same (l : List UInt8) (k : Nat) (h : k < l.length) (e : lkUp l[k] = l[k]) : upAt l k = upAt l (k + 1) := by
  rw [← upAt_set l k h, e]
  have := upAt_get l k h (by rw [upAt_length]; exact h)
  conv => rhs; rw [← this]
  exact (List.set_getElem_self _).symm
set_option maxHeartbeats 2000000 in
theorem law_LinkCase (s : ByteArray) (hss : s.size ≤ maxLen) (w : World) (hE : EnvU w) :
    Calls Tryd.prog 6 #[.string s] w fun e w' => e = .returned (.bool true) ∧ Below w.heap.size w w' := by
  rcases Nat.lt_or_ge 3000 s.size with hqs | hs
  · have HDs : Hid (decide (s.size ≤ 3000) = false) := decide_eq_false (by omega)
    have HE := hide hE
    clear hE
    go_enter Tryd.func6, Tryd.ntmps6
    go_wp2_with fail
    refine (short16_any s _ hss).mono ?_
    rintro e w1 ⟨rfl, rfl⟩
    rw [HDs.out]
    go_wp2_with fail
    refine (live16_any _ HE.out).mono ?_
    rintro e w1 ⟨rfl, hb1⟩
    go_wp2_with fail
    go_ret
    exact ⟨rfl, hb1⟩
  have HDs : Hid (decide (s.size ≤ 3000) = true) := decide_eq_true hs
  obtain ⟨C, hC⟩ : ∃ C, C = str (lkClean s.data.toList) := ⟨_, rfl⟩
  have hCs : C.size ≤ 3000 := by rw [hC]; exact Nat.le_trans (clean_size s) hs
  have hCl : C.data.toList = lkClean s.data.toList := by rw [hC, str_toList]
  have HC := hide hC
  have HE := hide hE
  clear hE
  cases hc : schL (lkClean s.data.toList) with
  | none =>
    have HS := hide (schV_none hc)
    clear hc hC hCl
    go_enter Tryd.func6, Tryd.ntmps6
    go_wp2_with fail
    refine (short16_any s _ hss).mono ?_
    rintro e w1 ⟨rfl, rfl⟩
    rw [HDs.out]
    go_wp2_with fail
    refine (linkScheme_any s _ (by omega) HE.out).mono ?_
    rintro e w1_ ⟨rfl, hb⟩
    have HE1 := hide (HE.out.kept hb)
    have HB1 := hide hb
    clear hb
    rw [HS.out]
    go_wp2_with fail
    refine (live16_any _ HE1.out).mono ?_
    rintro e w2_ ⟨rfl, hb⟩
    have HE2 := hide (HE1.out.kept hb)
    have HB2 := hide (HB1.out.trans (hb.mono HB1.out.size))
    clear hb
    go_wp2_with fail
    go_ret
    exact ⟨rfl, HB2.out⟩
  | some p =>
    obtain ⟨n, b⟩ := p
    obtain ⟨N, hN⟩ : ∃ N : ByteArray, N = str n := ⟨_, rfl⟩
    have HS : Hid (schV (lkClean s.data.toList) = .tuple #[.string N, .bool true]) := hide (by rw [schV_some hc, hN])
    obtain ⟨m, hm, hnm, hm0, hma⟩ := schL_some hc
    have hNs : N.size = m.length := by rw [hN, str_size, hnm, lowL_length]
    have hCz : C.size = m.length + 1 + b.length := by rw [← toList_length, hCl, hm, List.length_append]; simp; omega
    have hNC : N.size ≤ C.size := by omega
    obtain ⟨K, hK⟩ : ∃ K : Nat, lkKind (lkClean s.data.toList) = K := ⟨_, rfl⟩
    have hup : upAt C.data.toList N.size = m.map lkUp ++ 58 :: b := by
      unfold upAt
      rw [hCl, hm, hNs, List.take_left, List.drop_left]
    have hucl : lkClean (m.map lkUp ++ 58 :: b) = m.map lkUp ++ 58 :: b := up_clean hm0 hma (by rw [← hm]; exact clean_last _) (by rw [← hm]; exact clean_tag _)
    have husc : schL (m.map lkUp ++ 58 :: b) = some (n, b) := by rw [hnm]; exact up_scheme hm0 hma
    have HS2 : Hid (schV (lkClean (str (upAt C.data.toList N.size)).data.toList) = .tuple #[.string N, .bool true]) := hide (by rw [str_toList, hup, hucl, schV_some husc, hN])
    have HK2 : Hid (lkKind (lkClean (str (upAt C.data.toList N.size)).data.toList) = K) := hide (by rw [str_toList, hup, hucl, lkKind_some husc, ← hK, lkKind_some hc])
    have HK := hide hK
    have HUZ : Hid ((str (upAt C.data.toList N.size)).size ≤ 1048576) := hide (by rw [str_size, upAt_length, toList_length]; omega)
    clear hc hC hCl hN hm hnm hm0 hma hNs hCz hK hup hucl husc
    go_enter Tryd.func6, Tryd.ntmps6
    go_wp2_with fail
    refine (short16_any s _ hss).mono ?_
    rintro e w1 ⟨rfl, rfl⟩
    rw [HDs.out]
    go_wp2_with fail
    refine (linkScheme_any s _ (by omega) HE.out).mono ?_
    rintro e w1_ ⟨rfl, hb⟩
    have HE1 := hide (HE.out.kept hb)
    have HB1 := hide hb
    clear hb
    rw [HS.out]
    go_wp2_with fail
    refine (linkClean_any s _ (by omega) HE1.out).mono ?_
    rintro e w2_ ⟨rfl, hb⟩
    have HE2 := hide (HE1.out.kept hb)
    have HB2 := hide (HB1.out.trans (hb.mono HB1.out.size))
    clear hb
    rw [← HC.out]
    go_wp2_with (refine wpList_bytes rfl _ rfl C rfl ?_; intro cap w0 ha0; have HA0 := hide ha0; clear ha0)
    go_loopw [7] (fun i wr => ∃ k : Nat, k ≤ N.size ∧ i = .int .i64 k ∧ Arr w2_.heap.size w2_.heap.size (upAt C.data.toList k) w2_ wr) (fun i _ => N.size - (intOf i).toNat)
    case atStart => exact ⟨0, Nat.zero_le _, rfl, by rw [upAt_zero]; exact HA0.out⟩
    case round =>
      obtain ⟨k, hk, rfl, ha⟩ := hrel
      by_cases hlt : k < N.size
      · have hltC : k < C.size := by omega
        have hl : k < C.data.toList.length := by rw [toList_length]; exact hltC
        have hl' : k < (upAt C.data.toList k).length := by rw [upAt_length]; exact hl
        have hcell := ha.cell k hl'
        have hfree := ha.free k hl'
        rw [upAt_get _ _ hl hl'] at hcell
        have hset := upAt_set C.data.toList k hl
        have hcase := up_case C.data.toList[k]
        have hsame := upAt_same C.data.toList k hl
        have HST := fun (c : UInt8) (n : Int) (hn : n = c.toNat) => hide (ha.set k hl' c n hn)
        generalize C.data.toList[k] = c at hcell hset hcase hsame
        have HA := hide ha
        have HSET := hide hset
        clear ha hset
        have tk1 : decide ((k : Int) < (N.size : Int)) = true := decide_eq_true (by omega)
        have tk2 : decide ((k : Int) < (C.size : Int)) = true := decide_eq_true (by omega)
        rcases hcase with ⟨c1, c2, c3⟩ | ⟨c1, c2⟩
        · have s1 : decide ((97 : Int) ≤ (c.toNat : Int)) = true := decide_eq_true (by omega)
          have s2 : decide ((c.toNat : Int) ≤ 122) = true := decide_eq_true (by omega)
          clear hsame
          go_wp2_with fail
          go_roundw
          case rel => exact ⟨k + 1, by omega, by go_num, by rw [← HSET.out]; exact (HST (lkUp c) _ (by omega)).out⟩
          case measure => simp [intOf]; omega
        · have HS9 := hide (hsame c2)
          clear hsame c2
          rcases c1 with c1 | ⟨c0, c1⟩
          · have s1 : decide ((97 : Int) ≤ (c.toNat : Int)) = false := decide_eq_false (by omega)
            go_wp2_with fail
            go_roundw
            case rel => exact ⟨k + 1, by omega, by go_num, by rw [← HS9.out]; exact HA.out⟩
            case measure => simp [intOf]; omega
          · have s1 : decide ((97 : Int) ≤ (c.toNat : Int)) = true := decide_eq_true (by omega)
            have s2 : decide ((c.toNat : Int) ≤ 122) = false := decide_eq_false (by omega)
            go_wp2_with fail
            go_roundw
            case rel => exact ⟨k + 1, by omega, by go_num, by rw [← HS9.out]; exact HA.out⟩
            case measure => simp [intOf]; omega
      · obtain rfl : k = N.size := by omega
        have tk1 : decide ((N.size : Int) < (N.size : Int)) = false := decide_eq_false (by omega)
        have HEr := hide (HE2.out.kept ha.below)
        have HBr := hide (HB2.out.trans (ha.below.mono HB2.out.size))
        have hcv := ha.convert cap
        rw [upAt_length, toList_length] at hcv
        have HA := hide ha
        clear ha
        go_wp2_with fail
        refine (linkScheme_any _ _ HUZ.out HEr.out).mono ?_
        rintro e v1 ⟨rfl, hb⟩
        have HF1 := hide (HEr.out.kept hb)
        have HG1 := hide (HBr.out.trans (hb.mono HBr.out.size))
        have HA1 := hide (HA.out.kept hb)
        clear hb hcv
        have hcv1 := HA1.out.convert cap
        rw [upAt_length, toList_length] at hcv1
        rw [HS2.out]
        go_wp2_with fail
        refine (linkKind_any _ _ HUZ.out HF1.out).mono ?_
        rintro e v2 ⟨rfl, hb⟩
        have HF2 := hide (HF1.out.kept hb)
        have HG2 := hide (HG1.out.trans (hb.mono HG1.out.size))
        clear hb hcv1
        rw [HK2.out]
        go_wp2_with fail
        refine (linkKind_any s _ (by omega) HF2.out).mono ?_
        rintro e v3 ⟨rfl, hb⟩
        have HF3 := hide (HF2.out.kept hb)
        have HG3 := hide (HG2.out.trans (hb.mono HG2.out.size))
        clear hb
        rw [HK.out]
        go_wp2_with fail
        refine (live16_any _ HF3.out).mono ?_
        rintro e v4 ⟨rfl, hb⟩
        have HG4 := hide (HG3.out.trans (hb.mono HG3.out.size))
        clear hb
        go_wp2_with fail
        go_ret
        exact ⟨rfl, HG4.out⟩
end Go.Proofs.YtlhjdjjbmljilaaDoor
