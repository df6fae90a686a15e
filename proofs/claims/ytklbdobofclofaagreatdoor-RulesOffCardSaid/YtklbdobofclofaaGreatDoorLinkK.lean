/- WALK of link.Kind. No statement is proved here. Own work of the verifier. -/
import Derived.Test.YtklbdobofclofaaGreatDoorLinkC
namespace Go.Proofs.YtklbdobofclofaaGreatDoor
open Go.RowKit
set_option linter.unusedVariables false
set_option linter.unusedSimpArgs false
set_option maxRecDepth 100000

theorem kindOf_http (b : List UInt8) : ((lkKindOf httpL b : Nat) : Int) = hostK b 1 := by
  unfold lkKindOf hostK
  rw [if_pos rfl]
  split <;> rfl
theorem kindOf_https (b : List UInt8) : ((lkKindOf httpsL b : Nat) : Int) = hostK b 2 := by
  unfold lkKindOf hostK
  rw [if_neg (by decide), if_pos rfl]
  split <;> rfl
theorem kindOf_mail (b : List UInt8) : lkKindOf mailL b = 3 := by
  unfold lkKindOf
  rw [if_neg (by decide), if_neg (by decide), if_pos rfl]
theorem kindOf_cid (b : List UInt8) : lkKindOf cidL b = 4 := by
  unfold lkKindOf
  rw [if_neg (by decide), if_neg (by decide), if_neg (by decide), if_pos rfl]
theorem kindOf_other {n : List UInt8} (b : List UInt8) (h1 : n ≠ httpL) (h2 : n ≠ httpsL) (h3 : n ≠ mailL) (h4 : n ≠ cidL) : lkKindOf n b = 5 := by
  unfold lkKindOf
  rw [if_neg h1, if_neg h2, if_neg h3, if_neg h4]
theorem eqF {a b : List UInt8} (h : a ≠ b) : (a == b) = false := beq_eq_false_iff_ne.2 h
theorem eqT {a b : List UInt8} (h : a = b) : (a == b) = true := by rw [h]; exact beq_self_eq_true b
set_option maxHeartbeats 2000000 in
theorem linkKind_any (s : ByteArray) (w : World) (hs : s.size ≤ 1048576) (hE : EnvU w) :
    Calls Tryz.prog 30 #[.string s] w fun e w' => e = .returned (.int .i64 ((lkKind (lkClean s.data.toList) : Nat) : Int)) ∧ Below w.heap.size w w' := by
  have HZ : Hid ((str (lkClean s.data.toList)).size ≤ 1048576) := hide (Nat.le_trans (clean_size s) hs)
  have HV : Hid (cutKV (str (lkClean s.data.toList)).data.toList = cutKV (lkClean s.data.toList)) := hide (by rw [str_toList])
  have HE := hide hE
  clear hE
  cases hc : schL (lkClean s.data.toList) with
  | none =>
    have HC : Hid (cutKV (lkClean s.data.toList) = _) := hide (cutKV_none hc)
    have HR : Hid (lkKind (lkClean s.data.toList) = 0) := hide (lkKind_none hc)
    clear hc
    go_enter Tryz.func30, Tryz.ntmps30
    go_wp2_with fail
    refine (linkClean_any s _ hs HE.out).mono ?_
    rintro e w1 ⟨rfl, hb1⟩
    go_wp2_with fail
    refine (linkCut_any _ _ HZ.out).mono ?_
    rintro e w2 ⟨rfl, hb2⟩
    rw [HV.out, HC.out]
    go_wp2_with fail
    go_ret
    exact ⟨by rw [HR.out]; rfl, hb1.trans (hb2.mono hb1.size)⟩
  | some p =>
    obtain ⟨n, b⟩ := p
    obtain ⟨N, hN⟩ : ∃ N : ByteArray, N = str n := ⟨_, rfl⟩
    have hNl : N.toList = n := by rw [hN, str_list]
    have HC : Hid (cutKV (lkClean s.data.toList) = .tuple #[.string N, .string (str b), .bool true]) := hide (by rw [cutKV_some hc, hN])
    have HR : Hid (lkKind (lkClean s.data.toList) = lkKindOf n b) := hide (lkKind_some hc)
    have HBL : Hid ((str b).data.toList = b) := hide (str_toList b)
    clear hc hN
    by_cases h1 : n = httpL
    · have t1 : (N.toList == [104, 116, 116, 112]) = true := eqT (hNl.trans h1)
      have HK : Hid (((lkKind (lkClean s.data.toList) : Nat) : Int) = hostK b 1) := hide (by rw [HR.out, h1]; exact kindOf_http b)
      clear h1 hNl HR
      go_enter Tryz.func30, Tryz.ntmps30
      go_wp2_with fail
      refine (linkClean_any s _ hs HE.out).mono ?_
      rintro e w1 ⟨rfl, hb1⟩
      go_wp2_with fail
      refine (linkCut_any _ _ HZ.out).mono ?_
      rintro e w2 ⟨rfl, hb2⟩
      rw [HV.out, HC.out]
      go_wp2_with fail
      refine (ifHost_any _ 1 (by omega) _).mono ?_
      rintro e w3 ⟨rfl, rfl⟩
      rw [HBL.out]
      go_wp2_with fail
      go_ret
      exact ⟨by rw [HK.out]; rfl, hb1.trans (hb2.mono hb1.size)⟩
    have t1 : (N.toList == [104, 116, 116, 112]) = false := eqF (by rw [hNl]; exact h1)
    by_cases h2 : n = httpsL
    · have t2 : (N.toList == [104, 116, 116, 112, 115]) = true := eqT (hNl.trans h2)
      have HK : Hid (((lkKind (lkClean s.data.toList) : Nat) : Int) = hostK b 2) := hide (by rw [HR.out, h2]; exact kindOf_https b)
      clear h1 h2 hNl HR
      go_enter Tryz.func30, Tryz.ntmps30
      go_wp2_with fail
      refine (linkClean_any s _ hs HE.out).mono ?_
      rintro e w1 ⟨rfl, hb1⟩
      go_wp2_with fail
      refine (linkCut_any _ _ HZ.out).mono ?_
      rintro e w2 ⟨rfl, hb2⟩
      rw [HV.out, HC.out]
      go_wp2_with fail
      refine (ifHost_any _ 2 (by omega) _).mono ?_
      rintro e w3 ⟨rfl, rfl⟩
      rw [HBL.out]
      go_wp2_with fail
      go_ret
      exact ⟨by rw [HK.out]; rfl, hb1.trans (hb2.mono hb1.size)⟩
    have t2 : (N.toList == [104, 116, 116, 112, 115]) = false := eqF (by rw [hNl]; exact h2)
    have hrest : ∀ (t3 t4 : Bool) (K : Nat), (N.toList == [109, 97, 105, 108, 116, 111]) = t3 → (N.toList == [99, 105, 100]) = t4 → (t3 = true → K = 3) → (t3 = false → t4 = true → K = 4) → (t3 = false → t4 = false → K = 5) → lkKind (lkClean s.data.toList) = K →
        Calls Tryz.prog 30 #[.string s] w fun e w' => e = .returned (.int .i64 ((lkKind (lkClean s.data.toList) : Nat) : Int)) ∧ Below w.heap.size w w' := by
      intro t3 t4 K e3 e4 k3 k4 k5 hK
      have HK : Hid (lkKind (lkClean s.data.toList) = K) := hide hK
      clear h1 h2 hNl HR hK
      cases t3 with
      | true =>
        obtain rfl := k3 rfl
        clear k3 k4 k5
        go_enter Tryz.func30, Tryz.ntmps30
        go_wp2_with fail
        refine (linkClean_any s _ hs HE.out).mono ?_
        rintro e w1 ⟨rfl, hb1⟩
        go_wp2_with fail
        refine (linkCut_any _ _ HZ.out).mono ?_
        rintro e w2 ⟨rfl, hb2⟩
        rw [HV.out, HC.out]
        go_wp2_with fail
        go_ret
        exact ⟨by rw [HK.out]; rfl, hb1.trans (hb2.mono hb1.size)⟩
      | false =>
        cases t4 with
        | true =>
          obtain rfl := k4 rfl rfl
          clear k3 k4 k5
          go_enter Tryz.func30, Tryz.ntmps30
          go_wp2_with fail
          refine (linkClean_any s _ hs HE.out).mono ?_
          rintro e w1 ⟨rfl, hb1⟩
          go_wp2_with fail
          refine (linkCut_any _ _ HZ.out).mono ?_
          rintro e w2 ⟨rfl, hb2⟩
          rw [HV.out, HC.out]
          go_wp2_with fail
          go_ret
          exact ⟨by rw [HK.out]; rfl, hb1.trans (hb2.mono hb1.size)⟩
        | false =>
          obtain rfl := k5 rfl rfl
          clear k3 k4 k5
          go_enter Tryz.func30, Tryz.ntmps30
          go_wp2_with fail
          refine (linkClean_any s _ hs HE.out).mono ?_
          rintro e w1 ⟨rfl, hb1⟩
          go_wp2_with fail
          refine (linkCut_any _ _ HZ.out).mono ?_
          rintro e w2 ⟨rfl, hb2⟩
          rw [HV.out, HC.out]
          go_wp2_with fail
          go_ret
          exact ⟨by rw [HK.out]; rfl, hb1.trans (hb2.mono hb1.size)⟩
    by_cases h3 : n = mailL
    · exact hrest true false 3 (eqT (hNl.trans h3)) (eqF (by rw [hNl, h3]; decide)) (fun _ => rfl) (fun e => by cases e) (fun e => by cases e) (by rw [HR.out, h3]; exact kindOf_mail b)
    by_cases h4 : n = cidL
    · exact hrest false true 4 (eqF (by rw [hNl]; exact h3)) (eqT (hNl.trans h4)) (fun e => by cases e) (fun _ _ => rfl) (fun _ e => by cases e) (by rw [HR.out, h4]; exact kindOf_cid b)
    exact hrest false false 5 (eqF (by rw [hNl]; exact h3)) (eqF (by rw [hNl]; exact h4)) (fun e => by cases e) (fun _ e => by cases e) (fun _ _ => rfl) (by rw [HR.out]; exact kindOf_other b h1 h2 h3 h4)
end Go.Proofs.YtklbdobofclofaaGreatDoor
