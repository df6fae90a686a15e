/- WALK of the reference's Kind of layer 16. No statement is proved here. Own work of the verifier. -/
import Derived.Test.YtklbdobofclofaaGreatDoorRef16K
import Derived.Deep.Cut
import Derived.Deep.DeepCutAuto
namespace Go.Proofs.YtklbdobofclofaaGreatDoor
open Go.RowKit
set_option linter.unusedVariables false
set_option linter.unusedSimpArgs false
set_option maxRecDepth 100000
theorem hostB_short {b : List UInt8} (h : b.length ≤ 2) : hostB b = false := by
  match b, h with
  | [], _ => rfl
  | [_], _ => rfl
  | [_, _], _ => rfl
theorem host_split (b : List UInt8) : b.length ≤ 2 ∨ ∃ x y z r, b = x :: y :: z :: r := by
  match b with
  | [] => exact .inl (by decide)
  | [_] => exact .inl (by simp)
  | [_, _] => exact .inl (by simp)
  | x :: y :: z :: r => exact .inr ⟨x, y, z, r, rfl⟩
theorem hostB_three (x y z : UInt8) (r : List UInt8) : hostB (x :: y :: z :: r) = (x == 47 && y == 47 && !noH z) := rfl
theorem noH_tests (c : UInt8) : (c = 47 ∧ noH c = true) ∨ (c ≠ 47 ∧ c = 63 ∧ noH c = true) ∨ (c ≠ 47 ∧ c ≠ 63 ∧ c = 35 ∧ noH c = true) ∨ (c ≠ 47 ∧ c ≠ 63 ∧ c ≠ 35 ∧ c = 92 ∧ noH c = true) ∨ (c ≠ 47 ∧ c ≠ 63 ∧ c ≠ 35 ∧ c ≠ 92 ∧ noH c = false) :=
  u8_all (p := fun c => (c = 47 ∧ noH c = true) ∨ (c ≠ 47 ∧ c = 63 ∧ noH c = true) ∨ (c ≠ 47 ∧ c ≠ 63 ∧ c = 35 ∧ noH c = true) ∨ (c ≠ 47 ∧ c ≠ 63 ∧ c ≠ 35 ∧ c = 92 ∧ noH c = true) ∨ (c ≠ 47 ∧ c ≠ 63 ∧ c ≠ 35 ∧ c ≠ 92 ∧ noH c = false)) (by decide +kernel) c
set_option maxHeartbeats 4000000 in
theorem ref16Kind_any (s : ByteArray) (w : World) (hs : s.size ≤ 1048576) :
    Calls Tryz.prog 23 #[.string s] w fun e w' => e = .returned (.int .i64 ((lkKind (lkClean s.data.toList) : Nat) : Int)) ∧ Below w.heap.size w w' := by
  obtain ⟨C, hC⟩ : ∃ C, C = str (lkClean s.data.toList) := ⟨_, rfl⟩
  have hCs : C.size ≤ 1048576 := by rw [hC]; exact Nat.le_trans (clean_size s) hs
  have hCl : C.data.toList = lkClean s.data.toList := by rw [hC, str_toList]
  have HC := hide hC
  clear hC
  cases hc : schL (lkClean s.data.toList) with
  | none =>
    have HS := hide (schV_no hc)
    have HK := hide (lkKind_none hc)
    clear hc hCl
    go_enter Tryz.func23, Tryz.ntmps23
    go_wp2_with fail
    refine (ref16Scheme_any s _ hs).mono ?_
    rintro e w1 ⟨rfl, hb1⟩
    rw [HS.out]
    go_wp2_with fail
    go_ret
    exact ⟨by rw [HK.out]; rfl, hb1⟩
  | some p =>
    obtain ⟨n, b⟩ := p
    obtain ⟨N, hN⟩ : ∃ N : ByteArray, N = str n := ⟨_, rfl⟩
    have hNl : N.toList = n := by rw [hN, str_list]
    have HS : Hid (schV (lkClean s.data.toList) = .tuple #[.string N, .bool true]) := hide (by rw [schV_yes hc, hN])
    have HK := hide (lkKind_some hc)
    obtain ⟨m, hm, hnm, _, _⟩ := schL_some hc
    have hNs : N.size = m.length := by rw [hN, str_size, hnm, lowL_length]
    have hCz : C.size = N.size + 1 + b.length := by rw [← toList_length, hCl, hm, List.length_append, hNs]; simp; omega
    have hdr : C.data.toList.drop (N.size + 1) = b := by
      rw [hCl, hm, hNs, ← List.drop_drop, List.drop_left]; rfl
    obtain ⟨H, hH⟩ : ∃ H, H = hostB b := ⟨_, rfl⟩
    have HH := hide hH
    have HCZ := hide hCz
    have HDR := hide hdr
    have hNb : N.size ≤ 1048576 := by omega
    clear hc hCl hN hm hnm hNs hdr hH hCz
    go_enter Tryz.func23, Tryz.ntmps23
    go_wp2_with fail
    refine (ref16Scheme_any s _ hs).mono ?_
    rintro e w1 ⟨rfl, hb1⟩
    rw [HS.out]
    have HB1 := hide hb1
    clear hb1
    go_wp2_with fail
    refine (ref16Clean_any s _ hs).mono ?_
    rintro e w2 ⟨rfl, hb2⟩
    rw [← HC.out]
    have HB2 := hide (HB1.out.trans (hb2.mono HB1.out.size))
    clear hb2
    go_upto_region 5 with (fail)
    go_cut [6] (fun s6 wx => s6 = .bool H ∧ wx = w2)
    case first =>
      rcases host_split b with hsh | ⟨x, y, z, r, hb⟩
      · have hv : H = false := by rw [HH.out, hostB_short hsh]
        have q1 : decide ((N.size : Int) + 3 < (C.size : Int)) = false := decide_eq_false (by have := HCZ.out; omega)
        clear hsh
        go_wp2_with fail
        go_meet
        exact ⟨by rw [hv], rfl⟩
      · have hCb : N.size + 3 < C.size := by have := HCZ.out; rw [hb] at this; simp at this; omega
        have q1 : decide ((N.size : Int) + 3 < (C.size : Int)) = true := decide_eq_true (by omega)
        have q2 : ((N.size : Int) + 3).toNat = N.size + 3 := by omega
        have q3 : ((N.size : Int) + 1).toNat = N.size + 1 := by omega
        have q4 : (N.size : Int) + 3 < C.size := by omega
        have q5 : (0 : Int) ≤ (N.size : Int) + 3 := by omega
        obtain ⟨X, hX⟩ : ∃ X, C.extract (N.size + 1) (N.size + 3) = X := ⟨_, rfl⟩
        have hXl : X.toList = [x, y] := by
          rw [← hX, bytes_list, show N.size + 3 = N.size + 1 + 2 by omega, extract_mid, HDR.out, hb]; rfl
        have hz : C[N.size + 3] = z := by
          have e := drop_cons C (N.size + 3) hCb
          have e1 : C.data.toList.drop (N.size + 3) = z :: r := by rw [show N.size + 3 = N.size + 1 + 2 by omega, ← List.drop_drop, HDR.out, hb]; rfl
          exact (List.cons.inj (e.symm.trans e1)).1
        have HV : Hid (H = (x == 47 && y == 47 && !noH z)) := hide (by rw [HH.out, hb]; rfl)
        clear hb
        by_cases hxy : x = 47 ∧ y = 47
        · have hxe : (X.toList == [47, 47]) = true := by rw [hXl, hxy.1, hxy.2]; rfl
          rcases noH_tests z with ⟨c1, c2⟩ | ⟨c0, c1, c2⟩ | ⟨c0, c00, c1, c2⟩ | ⟨c0, c00, c000, c1, c2⟩ | ⟨c0, c00, c000, c1, c2⟩
          · have s1 : ((C[N.size + 3].toNat : Int) == 47) = true := by rw [hz]; exact tT 47 c1 (by omega)
            have s2 : ((C[N.size + 3].toNat : Int) != 47) = false := by rw [bne, s1]; rfl
            have hv : H = false := by rw [HV.out, hxy.1, hxy.2, c2]; rfl
            clear hz hXl hxy c2 c1
            go_wp2_with fail
            go_meet
            exact ⟨by rw [hv], rfl⟩
          · have s1 : ((C[N.size + 3].toNat : Int) == 47) = false := by rw [hz]; exact tF 47 c0 (by omega)
            have s2 : ((C[N.size + 3].toNat : Int) != 47) = true := by rw [bne, s1]; rfl
            have s3 : ((C[N.size + 3].toNat : Int) == 63) = true := by rw [hz]; exact tT 63 c1 (by omega)
            have s4 : ((C[N.size + 3].toNat : Int) != 63) = false := by rw [bne, s3]; rfl
            have hv : H = false := by rw [HV.out, hxy.1, hxy.2, c2]; rfl
            clear hz hXl hxy c2 c0 c1
            go_wp2_with fail
            go_meet
            exact ⟨by rw [hv], rfl⟩
          · have s1 : ((C[N.size + 3].toNat : Int) == 47) = false := by rw [hz]; exact tF 47 c0 (by omega)
            have s2 : ((C[N.size + 3].toNat : Int) != 47) = true := by rw [bne, s1]; rfl
            have s3 : ((C[N.size + 3].toNat : Int) == 63) = false := by rw [hz]; exact tF 63 c00 (by omega)
            have s4 : ((C[N.size + 3].toNat : Int) != 63) = true := by rw [bne, s3]; rfl
            have s5 : ((C[N.size + 3].toNat : Int) == 35) = true := by rw [hz]; exact tT 35 c1 (by omega)
            have s6 : ((C[N.size + 3].toNat : Int) != 35) = false := by rw [bne, s5]; rfl
            have hv : H = false := by rw [HV.out, hxy.1, hxy.2, c2]; rfl
            clear hz hXl hxy c2 c0 c00 c1
            go_wp2_with fail
            go_meet
            exact ⟨by rw [hv], rfl⟩
          · have s1 : ((C[N.size + 3].toNat : Int) == 47) = false := by rw [hz]; exact tF 47 c0 (by omega)
            have s2 : ((C[N.size + 3].toNat : Int) != 47) = true := by rw [bne, s1]; rfl
            have s3 : ((C[N.size + 3].toNat : Int) == 63) = false := by rw [hz]; exact tF 63 c00 (by omega)
            have s4 : ((C[N.size + 3].toNat : Int) != 63) = true := by rw [bne, s3]; rfl
            have s5 : ((C[N.size + 3].toNat : Int) == 35) = false := by rw [hz]; exact tF 35 c000 (by omega)
            have s6 : ((C[N.size + 3].toNat : Int) != 35) = true := by rw [bne, s5]; rfl
            have s7 : ((C[N.size + 3].toNat : Int) == 92) = true := by rw [hz]; exact tT 92 c1 (by omega)
            have s8 : ((C[N.size + 3].toNat : Int) != 92) = false := by rw [bne, s7]; rfl
            have hv : H = false := by rw [HV.out, hxy.1, hxy.2, c2]; rfl
            clear hz hXl hxy c2 c0 c00 c000 c1
            go_wp2_with fail
            go_meet
            exact ⟨by rw [hv], rfl⟩
          · have s1 : ((C[N.size + 3].toNat : Int) == 47) = false := by rw [hz]; exact tF 47 c0 (by omega)
            have s2 : ((C[N.size + 3].toNat : Int) != 47) = true := by rw [bne, s1]; rfl
            have s3 : ((C[N.size + 3].toNat : Int) == 63) = false := by rw [hz]; exact tF 63 c00 (by omega)
            have s4 : ((C[N.size + 3].toNat : Int) != 63) = true := by rw [bne, s3]; rfl
            have s5 : ((C[N.size + 3].toNat : Int) == 35) = false := by rw [hz]; exact tF 35 c000 (by omega)
            have s6 : ((C[N.size + 3].toNat : Int) != 35) = true := by rw [bne, s5]; rfl
            have s7 : ((C[N.size + 3].toNat : Int) == 92) = false := by rw [hz]; exact tF 92 c1 (by omega)
            have s8 : ((C[N.size + 3].toNat : Int) != 92) = true := by rw [bne, s7]; rfl
            have hv : H = true := by rw [HV.out, hxy.1, hxy.2, c2]; rfl
            clear hz hXl hxy c2 c0 c00 c000 c1
            go_wp2_with fail
            go_meet
            exact ⟨by rw [hv], rfl⟩
        · have hxe : (X.toList == [47, 47]) = false := by
            rw [hXl, beq_eq_false_iff_ne]
            intro e
            injection e with e1 e2
            injection e2 with e2 _
            exact hxy ⟨e1, e2⟩
          have hv : H = false := by
            rw [HV.out, Bool.eq_false_iff]
            intro h
            rw [Bool.and_eq_true, Bool.and_eq_true, beq_iff_eq, beq_iff_eq] at h
            exact hxy h.1
          clear hz hXl hxy
          go_wp2_with fail
          go_meet
          exact ⟨by rw [hv], rfl⟩
    case rest =>
      obtain ⟨rfl, hw⟩ := hcut
      subst hw
      by_cases h0 : n = httpL
      · have t0 : (N.toList == [104, 116, 116, 112]) = true := eqT (hNl.trans h0)
        have t1 : (N.toList == [104, 116, 116, 112, 115]) = false := eqF (by rw [hNl, h0]; decide)
        have t2 : (N.toList == [109, 97, 105, 108, 116, 111]) = false := eqF (by rw [hNl, h0]; decide)
        have t3 : (N.toList == [99, 105, 100]) = false := eqF (by rw [hNl, h0]; decide)
        have HR : Hid (((lkKind (lkClean s.data.toList) : Nat) : Int) = hostK b 1) := hide (by rw [HK.out, h0]; exact kindOf_http b)
        clear hNl h0
        cases hHv : H with
        | true =>
          have HR2 : Hid (hostK b 1 = 1) := hide (hostK_t 1 (by rw [← HH.out]; exact hHv))
          clear hHv
          go_wp2_with fail
          go_ret
          exact ⟨by rw [HR.out, HR2.out]; rfl, HB2.out⟩
        | false =>
          have HR2 : Hid (hostK b 1 = 5) := hide (hostK_f 1 (by rw [← HH.out]; exact hHv))
          clear hHv
          go_wp2_with fail
          go_ret
          exact ⟨by rw [HR.out, HR2.out]; rfl, HB2.out⟩
      by_cases h1 : n = httpsL
      · have t0 : (N.toList == [104, 116, 116, 112]) = false := eqF (by rw [hNl, h1]; decide)
        have t1 : (N.toList == [104, 116, 116, 112, 115]) = true := eqT (hNl.trans h1)
        have t2 : (N.toList == [109, 97, 105, 108, 116, 111]) = false := eqF (by rw [hNl, h1]; decide)
        have t3 : (N.toList == [99, 105, 100]) = false := eqF (by rw [hNl, h1]; decide)
        have HR : Hid (((lkKind (lkClean s.data.toList) : Nat) : Int) = hostK b 2) := hide (by rw [HK.out, h1]; exact kindOf_https b)
        clear hNl h0 h1
        cases hHv : H with
        | true =>
          have HR2 : Hid (hostK b 2 = 2) := hide (hostK_t 2 (by rw [← HH.out]; exact hHv))
          clear hHv
          go_wp2_with fail
          go_ret
          exact ⟨by rw [HR.out, HR2.out]; rfl, HB2.out⟩
        | false =>
          have HR2 : Hid (hostK b 2 = 5) := hide (hostK_f 2 (by rw [← HH.out]; exact hHv))
          clear hHv
          go_wp2_with fail
          go_ret
          exact ⟨by rw [HR.out, HR2.out]; rfl, HB2.out⟩
      by_cases h2 : n = mailL
      · have t0 : (N.toList == [104, 116, 116, 112]) = false := eqF (by rw [hNl, h2]; decide)
        have t1 : (N.toList == [104, 116, 116, 112, 115]) = false := eqF (by rw [hNl, h2]; decide)
        have t2 : (N.toList == [109, 97, 105, 108, 116, 111]) = true := eqT (hNl.trans h2)
        have t3 : (N.toList == [99, 105, 100]) = false := eqF (by rw [hNl, h2]; decide)
        have HR : Hid (((lkKind (lkClean s.data.toList) : Nat) : Int) = 3) := hide (by rw [HK.out, h2, kindOf_mail b]; rfl)
        clear hNl h0 h1 h2
        go_wp2_with fail
        go_ret
        exact ⟨by rw [HR.out]; rfl, HB2.out⟩
      by_cases h3 : n = cidL
      · have t0 : (N.toList == [104, 116, 116, 112]) = false := eqF (by rw [hNl, h3]; decide)
        have t1 : (N.toList == [104, 116, 116, 112, 115]) = false := eqF (by rw [hNl, h3]; decide)
        have t2 : (N.toList == [109, 97, 105, 108, 116, 111]) = false := eqF (by rw [hNl, h3]; decide)
        have t3 : (N.toList == [99, 105, 100]) = true := eqT (hNl.trans h3)
        have HR : Hid (((lkKind (lkClean s.data.toList) : Nat) : Int) = 4) := hide (by rw [HK.out, h3, kindOf_cid b]; rfl)
        clear hNl h0 h1 h2 h3
        go_wp2_with fail
        go_ret
        exact ⟨by rw [HR.out]; rfl, HB2.out⟩
      have t0 : (N.toList == [104, 116, 116, 112]) = false := eqF (by rw [hNl]; exact h0)
      have t1 : (N.toList == [104, 116, 116, 112, 115]) = false := eqF (by rw [hNl]; exact h1)
      have t2 : (N.toList == [109, 97, 105, 108, 116, 111]) = false := eqF (by rw [hNl]; exact h2)
      have t3 : (N.toList == [99, 105, 100]) = false := eqF (by rw [hNl]; exact h3)
      have HR : Hid (((lkKind (lkClean s.data.toList) : Nat) : Int) = 5) := hide (by rw [HK.out, kindOf_other b h0 h1 h2 h3]; rfl)
      clear hNl h0 h1 h2 h3
      go_wp2_with fail
      go_ret
      exact ⟨by rw [HR.out]; rfl, HB2.out⟩
end Go.Proofs.YtklbdobofclofaaGreatDoor
